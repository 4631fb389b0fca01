/-
  What the functions of this program come to, as functions of natives, each with the proof that it does. No conditions.
-/
import Derived.Test.YtpofnipphhljeaaProg
import Derived.Test.YtpofnipphhljeaaSyV
namespace Go.Proofs.Ytpofnipphhljeaa
open Go Go.Sy Go.RowKit
set_option linter.unusedVariables false
set_option linter.unusedSimpArgs false
set_option maxRecDepth 100000

structure St23 where
  Neg_ : Bool
  D_ : List Int
  E_ : Int
  deriving Inhabited, DecidableEq
def encSt23 (x : St23) : List SV := [.bool x.Neg_, lsv (encI .u8) 1 x.D_, .int .i64 x.E_]
theorem encSt23_len (x : St23) : (encSt23 x).length = 3 := rfl

structure St25 where
  D_ : St23
  K_ : Int
  Place_ : Int
  Mode_ : Int
  Other_ : Int
  deriving Inhabited, DecidableEq
def encSt25 (x : St25) : List SV := [.bool x.D_.Neg_, lsv (encI .u8) 1 x.D_.D_, .int .i64 x.D_.E_, .int .i64 x.K_, .int .i64 x.Place_, .int .i64 x.Mode_, .int .i64 x.Other_]
theorem encSt25_len (x : St25) : (encSt25 x).length = 7 := rfl

def round_Is (x0 : Int) : Option (Bool) :=
  (Option.bind (bif (decide (x0 ≥ 0)) then (some (decide (x0 ≤ 7))) else (some false)) fun (s4 : Bool) => (some s4))
theorem round_Is_ok {x0 : Int} {r : Bool} (h : round_Is x0 = some r) : SC Try.prog 23 [.int .i64 x0] [] (.bool r) [] := by
  refine K.fn (fn := Try.f23) (by kernel_rfl) (by kernel_rfl) (by kernel_rfl) (by kernel_rfl) (by kernel_rfl) (fun F hFn hFH hFD => ?_)
  unfold round_Is at h
  refine K.seq (by kernel_rfl) ?_
  refine K.region (by kernel_rfl) ?_
  refine RJ.seg 1 [0, 2] (L2 := [(0, .int .i64 x0), (2, .bool false)]) (H2 := []) (by kernel_rfl) ?_
  refine RJ.end (by kernel_rfl) ?_
  refine PJ.next ?_
  obtain ⟨s4, hy6, h8⟩ := bindS h
  refine K.cutN (by kernel_rfl) (fun (s4 : Bool) => ([(2, .bool s4)], [])) s4 ?_ ?_
  · refine K.region (by kernel_rfl) ?_
    refine RJ.seg 3 [0, 2, 5] (L2 := [(0, .int .i64 x0), (2, .bool false), (5, .bool (decide (x0 ≥ 0)))]) (H2 := []) (by kernel_rfl) ?_
    refine RJ.caseB 5 (b := (decide (x0 ≥ 0))) (by kernel_rfl) (fun hb9 => ?_) (fun hb9 => ?_)
    · have h10 := condT hb9 hy6
      refine RJ.seg 4 [2] (L2 := [(2, .bool (decide (x0 ≤ 7)))]) (H2 := []) (by kernel_rfl) ?_
      refine RJ.end (by kernel_rfl) ?_
      obtain rfl := Option.some.inj h10
      exact PJ.cutN [2] (by kernel_rfl) (by kernel_rfl)
    · have h11 := condF hb9 hy6
      refine RJ.seg 4 [2] (L2 := [(2, .bool false)]) (H2 := []) (by kernel_rfl) ?_
      refine RJ.end (by kernel_rfl) ?_
      obtain rfl := Option.some.inj h11
      exact PJ.cutN [2] (by kernel_rfl) (by kernel_rfl)
  · refine K.ret (by kernel_rfl) ?_
    obtain rfl := Option.some.inj h8
    exact K.ret0 (.inr rfl) hFn hFH hFD (by kernel_rfl) (by kernel_rfl) (by kernel_rfl)

def round_unit (x0 : Int) (x1 : Int) : Option (Bool) :=
  (Option.bind (bif (decide (x0 ≥ 1)) then (bif (decide (x0 ≤ 1000000000)) then (bif (decide (x1 ≥ (-1000))) then (some (decide (x1 ≤ 1000))) else (some false)) else (some false)) else (some false)) fun (s10 : Bool) => (some s10))
theorem round_unit_ok {x0 : Int} {x1 : Int} {r : Bool} (h : round_unit x0 x1 = some r) : SC Try.prog 24 [.int .i64 x0, .int .i64 x1] [] (.bool r) [] := by
  refine K.fn (fn := Try.f24) (by kernel_rfl) (by kernel_rfl) (by kernel_rfl) (by kernel_rfl) (by kernel_rfl) (fun F hFn hFH hFD => ?_)
  unfold round_unit at h
  refine K.seq (by kernel_rfl) ?_
  refine K.region (by kernel_rfl) ?_
  refine RJ.seg 1 [0, 1, 4] (L2 := [(0, .int .i64 x0), (1, .int .i64 x1), (4, .bool false)]) (H2 := []) (by kernel_rfl) ?_
  refine RJ.end (by kernel_rfl) ?_
  refine PJ.next ?_
  obtain ⟨s10, hy12, h14⟩ := bindS h
  refine K.cutN (by kernel_rfl) (fun (s10 : Bool) => ([(4, .bool s10)], [])) s10 ?_ ?_
  · refine K.region (by kernel_rfl) ?_
    refine RJ.seg 3 [0, 1, 4, 7] (L2 := [(0, .int .i64 x0), (1, .int .i64 x1), (4, .bool false), (7, .bool (decide (x0 ≥ 1)))]) (H2 := []) (by kernel_rfl) ?_
    refine RJ.caseB 7 (b := (decide (x0 ≥ 1))) (by kernel_rfl) (fun hb15 => ?_) (fun hb15 => ?_)
    · have h16 := condT hb15 hy12
      refine RJ.seg 4 [1, 4, 11] (L2 := [(1, .int .i64 x1), (4, .bool false), (11, .bool (decide (x0 ≤ 1000000000)))]) (H2 := []) (by kernel_rfl) ?_
      refine RJ.caseB 11 (b := (decide (x0 ≤ 1000000000))) (by kernel_rfl) (fun hb18 => ?_) (fun hb18 => ?_)
      · have h19 := condT hb18 h16
        refine RJ.seg 4 [1, 4, 15] (L2 := [(1, .int .i64 x1), (4, .bool false), (15, .bool ((decide (x1 ≥ (-1000)))))]) (H2 := []) (by kernel_rfl) ?_
        refine RJ.caseB 15 (b := (decide (x1 ≥ (-1000)))) (by kernel_rfl) (fun hb21 => ?_) (fun hb21 => ?_)
        · have h22 := condT hb21 h19
          refine RJ.seg 4 [4] (L2 := [(4, .bool (decide (x1 ≤ 1000)))]) (H2 := []) (by kernel_rfl) ?_
          refine RJ.end (by kernel_rfl) ?_
          obtain rfl := Option.some.inj h22
          exact PJ.cutN [4] (by kernel_rfl) (by kernel_rfl)
        · have h23 := condF hb21 h19
          refine RJ.seg 4 [4] (L2 := [(4, .bool false)]) (H2 := []) (by kernel_rfl) ?_
          refine RJ.end (by kernel_rfl) ?_
          obtain rfl := Option.some.inj h23
          exact PJ.cutN [4] (by kernel_rfl) (by kernel_rfl)
      · have h20 := condF hb18 h16
        refine RJ.seg 8 [4] (L2 := [(4, .bool false)]) (H2 := []) (by kernel_rfl) ?_
        refine RJ.end (by kernel_rfl) ?_
        obtain rfl := Option.some.inj h20
        exact PJ.cutN [4] (by kernel_rfl) (by kernel_rfl)
    · have h17 := condF hb15 hy12
      refine RJ.seg 12 [4] (L2 := [(4, .bool false)]) (H2 := []) (by kernel_rfl) ?_
      refine RJ.end (by kernel_rfl) ?_
      obtain rfl := Option.some.inj h17
      exact PJ.cutN [4] (by kernel_rfl) (by kernel_rfl)
  · refine K.ret (by kernel_rfl) ?_
    obtain rfl := Option.some.inj h14
    exact K.ret0 (.inr rfl) hFn hFH hFD (by kernel_rfl) (by kernel_rfl) (by kernel_rfl)

def dec_figures (x0 : List Int) : Option (Bool) :=
  (Option.bind (loopN (fun (s45 : Int) => (bif (decide (s45 < (x0.length : Int))) then (bif inR s45 x0.length then (bif (decide ((nth x0 s45) > 9)) then (some (.inr (.inr false))) else (some (.inl (IntKind.wrap .i64 (s45 + 1))))) else none) else (some (.inr (.inl ()))))) big 0) (joinX fun (s40 : Unit) => (some true)))
theorem dec_figures_ok {x0 : List Int} {r : Bool} (h : dec_figures x0 = some r) : SC Try.prog 37 [lsv (encI .u8) 1 x0] [] (.bool r) [] := by
  refine K.fn (fn := Try.f37) (by kernel_rfl) (by kernel_rfl) (by kernel_rfl) (by kernel_rfl) (by kernel_rfl) (fun F hFn hFH hFD => ?_)
  unfold dec_figures at h
  refine K.seq (by kernel_rfl) ?_
  refine K.region (by kernel_rfl) ?_
  refine RJ.seg 1 [0, 2] (L2 := [(0, lsv (encI .u8) 1 x0), (2, .bool false)]) (H2 := []) (by kernel_rfl) ?_
  refine RJ.end (by kernel_rfl) ?_
  refine PJ.next ?_
  obtain ⟨y41, hy42, h43⟩ := bindS h
  refine K.cutX (by kernel_rfl) (fun (s40 : Unit) => ([(2, .bool false)], [])) y41 ?_ (fun s40 hs => ?_)
  · refine K.seq (by kernel_rfl) ?_
    refine K.region (by kernel_rfl) ?_
    refine RJ.seg 3 [2, 5, 6, 7] (L2 := [(2, .bool false), (5, lsv (encI .u8) 1 x0), (6, .int .i64 (x0.length : Int)), (7, .int .i64 0)]) (H2 := []) (by kernel_rfl) ?_
    refine RJ.end (by kernel_rfl) ?_
    refine PJ.next ?_
    refine K.block 0 (by kernel_rfl) ?_
    refine K.loop (by kernel_rfl) (fun (s45 : Int) => ([(2, .bool false), (5, lsv (encI .u8) 1 x0), (6, .int .i64 (x0.length : Int)), (7, .int .i64 s45)], [])) hy42 [2, 5, 6, 7] (by kernel_rfl) (by kernel_rfl) (fun s45 x71 hs70 => ?_)
    refine K.seq (by kernel_rfl) ?_
    refine K.region (by kernel_rfl) ?_
    refine RJ.seg 1 [2, 5, 6, 7, 8] (L2 := [(2, .bool false), (5, lsv (encI .u8) 1 x0), (6, .int .i64 (x0.length : Int)), (7, .int .i64 s45), (8, .bool ((decide (s45 < (x0.length : Int)))))]) (H2 := []) (by kernel_rfl) ?_
    refine RJ.end (by kernel_rfl) ?_
    refine PJ.next ?_
    refine K.seq (by kernel_rfl) ?_
    refine J.caseB 8 (b := (decide (s45 < (x0.length : Int)))) (by kernel_rfl) (fun hb72 => ?_) (fun hb72 => ?_)
    · have h73 := condT hb72 hs70
      refine K.condT (by kernel_rfl) ?_
      refine K.skip (by kernel_rfl) ?_
      refine PJ.next ?_
      refine K.seq (by kernel_rfl) ?_
      refine K.block 1 (by kernel_rfl) ?_
      refine K.seq (by kernel_rfl) ?_
      refine K.region (by kernel_rfl) ?_
      obtain ⟨hm, h75⟩ := asrt h73
      refine RJ.rel (d := (some 9)) (ef := ⟨.ep (((x0.flatMap (encI .u8)).drop ((s45 : Int).toNat * 1)).take 1), [], []⟩) (ef' := ⟨.ep ((encI .u8) (nth x0 s45)), [], []⟩) (c := inR s45 x0.length) (tr2 := []) (H2 := []) (by kernel_rfl) hm (fun hc => N.idx (encI_len .u8) hc) (by kernel_rfl) ?_
      refine RJ.seg 2 [2, 4, 5, 6, 7] (L2 := [(2, .bool false), (4, .int .u8 (nth x0 s45)), (5, lsv (encI .u8) 1 x0), (6, .int .i64 (x0.length : Int)), (7, .int .i64 s45)]) (H2 := []) (by kernel_rfl) ?_
      refine RJ.end (by kernel_rfl) ?_
      refine PJ.next ?_
      refine K.seq (by kernel_rfl) ?_
      refine K.region (by kernel_rfl) ?_
      refine RJ.seg 2 [2, 5, 6, 7, 12] (L2 := [(2, .bool false), (5, lsv (encI .u8) 1 x0), (6, .int .i64 (x0.length : Int)), (7, .int .i64 s45), (12, .bool ((decide ((nth x0 s45) > 9))))]) (H2 := []) (by kernel_rfl) ?_
      refine RJ.end (by kernel_rfl) ?_
      refine PJ.next ?_
      refine J.caseB 12 (b := (decide ((nth x0 s45) > 9))) (by kernel_rfl) (fun hb76 => ?_) (fun hb76 => ?_)
      · have h77 := condT hb76 h75
        refine K.condT (by kernel_rfl) ?_
        refine K.seq (by kernel_rfl) ?_
        refine K.region (by kernel_rfl) ?_
        refine RJ.seg 1 [2, 5, 6, 7] (L2 := [(2, .bool false), (5, lsv (encI .u8) 1 x0), (6, .int .i64 (x0.length : Int)), (7, .int .i64 s45)]) (H2 := []) (by kernel_rfl) ?_
        refine RJ.end (by kernel_rfl) ?_
        refine PJ.next ?_
        refine K.ret (by kernel_rfl) ?_
        refine PJ.blockRet ?_
        refine PJ.passRet ?_
        obtain rfl := Option.some.inj h77
        refine PJ.loopOut (fun e => nomatch e) (fun he81 => ?_)
        have h79 := congrArg some he81
        refine PJ.blockRet ?_
        obtain rfl := Option.some.inj h79
        have h80 := joinX_inr h43
        refine PJ.cutXr (fun e => nomatch e) ?_
        obtain rfl := Option.some.inj h80
        exact K.ret0 (.inr rfl) hFn hFH hFD (by kernel_rfl) (by kernel_rfl) (by kernel_rfl)
      · have h78 := condF hb76 h75
        refine K.condF (by kernel_rfl) ?_
        refine K.skip (by kernel_rfl) ?_
        refine PJ.blockNormal ?_
        refine PJ.next ?_
        refine K.region (by kernel_rfl) ?_
        refine RJ.seg 2 [2, 5, 6, 7] (L2 := [(2, .bool false), (5, lsv (encI .u8) 1 x0), (6, .int .i64 (x0.length : Int)), (7, .int .i64 (IntKind.wrap .i64 (s45 + 1)))]) (H2 := []) (by kernel_rfl) ?_
        refine RJ.end (by kernel_rfl) ?_
        obtain rfl := Option.some.inj h78
        exact PJ.loopNext [2, 5, 6, 7] (by kernel_rfl) (by kernel_rfl)
    · have h74 := condF hb72 hs70
      refine K.condF (by kernel_rfl) ?_
      refine K.exit 0 (by kernel_rfl) ?_
      refine PJ.passExit ?_
      obtain rfl := Option.some.inj h74
      refine PJ.loopOut (fun e => nomatch e) (fun he83 => ?_)
      have h82 := congrArg some he83
      refine PJ.blockOut ?_
      obtain rfl := Option.some.inj h82
      exact PJ.cutXl [2] (by kernel_rfl) (by kernel_rfl)
  · subst hs
    have h44 := joinX_inl h43
    refine K.seq (by kernel_rfl) ?_
    refine K.region (by kernel_rfl) ?_
    refine RJ.seg 1 [2] (L2 := [(2, .bool true)]) (H2 := []) (by kernel_rfl) ?_
    refine RJ.end (by kernel_rfl) ?_
    refine PJ.next ?_
    refine K.ret (by kernel_rfl) ?_
    obtain rfl := Option.some.inj h44
    exact K.ret0 (.inr rfl) hFn hFH hFD (by kernel_rfl) (by kernel_rfl) (by kernel_rfl)

def dec_Right (x0 : St23) : Option (Bool) :=
  (bif (decide ((x0.D_.length : Int) = 0)) then (some (decide (x0.E_ = 0))) else (Option.bind (Option.bind (bif (decide ((x0.D_.length : Int) > 1000)) then (some true) else (bif (decide (x0.E_ < (-1000))) then (some true) else (some (decide (x0.E_ > 1000))))) fun (s36 : Bool) => (bif s36 then (some (.inr false)) else (some (.inl ())))) (joinX fun (s25 : Unit) => (Option.bind (bif inR 0 x0.D_.length then (bif (decide (¬ (nth x0.D_ 0) = 0)) then (bif inR ((IntKind.wrap .i64 ((x0.D_.length : Int) - 1))) x0.D_.length then (bif (decide (¬ ((nth x0.D_ ((IntKind.wrap .i64 ((x0.D_.length : Int) - 1))))) = 0)) then (Option.bind (dec_figures x0.D_) fun y75 => (some y75)) else (some false)) else none) else (some false)) else none) fun (s62 : Bool) => (some s62)))))
theorem dec_Right_ok {x0 : St23} {r : Bool} (h : dec_Right x0 = some r) : SC Try.prog 25 [.agg [.bool x0.Neg_, lsv (encI .u8) 1 x0.D_, .int .i64 x0.E_]] [] (.bool r) [] := by
  refine K.fn (fn := Try.f25) (by kernel_rfl) (by kernel_rfl) (by kernel_rfl) (by kernel_rfl) (by kernel_rfl) (fun F hFn hFH hFD => ?_)
  unfold dec_Right at h
  refine K.seq (by kernel_rfl) ?_
  refine K.region (by kernel_rfl) ?_
  refine RJ.seg 2 [1, 2] (L2 := [(1, .ptr 0 0), (2, .bool false)]) (H2 := [.box [.bool x0.Neg_, lsv (encI .u8) 1 x0.D_, .int .i64 x0.E_]]) (by kernel_rfl) ?_
  refine RJ.end (by kernel_rfl) ?_
  refine PJ.next ?_
  refine K.seq (by kernel_rfl) ?_
  refine K.region (by kernel_rfl) ?_
  refine RJ.seg 4 [1, 2, 3] (L2 := [(1, .ptr 0 0), (2, .bool false), (3, .int .i64 (x0.D_.length : Int))]) (H2 := [.box [.bool x0.Neg_, lsv (encI .u8) 1 x0.D_, .int .i64 x0.E_]]) (by kernel_rfl) ?_
  refine RJ.end (by kernel_rfl) ?_
  refine PJ.next ?_
  refine K.seq (by kernel_rfl) ?_
  refine K.seq (by kernel_rfl) ?_
  refine K.region (by kernel_rfl) ?_
  refine RJ.seg 2 [1, 2, 3, 8] (L2 := [(1, .ptr 0 0), (2, .bool false), (3, .int .i64 (x0.D_.length : Int)), (8, .bool ((decide ((x0.D_.length : Int) = 0))))]) (H2 := [.box [.bool x0.Neg_, lsv (encI .u8) 1 x0.D_, .int .i64 x0.E_]]) (by kernel_rfl) ?_
  refine RJ.end (by kernel_rfl) ?_
  refine PJ.next ?_
  refine J.caseB 8 (b := (decide ((x0.D_.length : Int) = 0))) (by kernel_rfl) (fun hb1 => ?_) (fun hb1 => ?_)
  · have h2 := condT hb1 h
    refine K.condT (by kernel_rfl) ?_
    refine K.seq (by kernel_rfl) ?_
    refine K.region (by kernel_rfl) ?_
    refine RJ.seg 4 [1, 2, 3] (L2 := [(1, .ptr 0 0), (2, .bool (decide (x0.E_ = 0))), (3, .int .i64 (x0.D_.length : Int))]) (H2 := [.box [.bool x0.Neg_, lsv (encI .u8) 1 x0.D_, .int .i64 x0.E_]]) (by kernel_rfl) ?_
    refine RJ.end (by kernel_rfl) ?_
    refine PJ.next ?_
    refine K.ret (by kernel_rfl) ?_
    refine PJ.passRet ?_
    obtain rfl := Option.some.inj h2
    exact K.ret0 (.inr rfl) hFn hFH hFD (by kernel_rfl) (by kernel_rfl) (by kernel_rfl)
  · have h3 := condF hb1 h
    refine K.condF (by kernel_rfl) ?_
    refine K.skip (by kernel_rfl) ?_
    refine PJ.next ?_
    obtain ⟨y26, hy27, h28⟩ := bindS h3
    refine K.cutX (by kernel_rfl) (fun (s25 : Unit) => ([(1, .ptr 0 0), (2, .bool false), (3, .int .i64 (x0.D_.length : Int))], [.box [.bool x0.Neg_, lsv (encI .u8) 1 x0.D_, .int .i64 x0.E_]])) y26 ?_ (fun s25 hs => ?_)
    · obtain ⟨s36, hy38, h40⟩ := bindS hy27
      refine K.cutN (by kernel_rfl) (fun (s36 : Bool) => ([(1, .ptr 0 0), (2, .bool false), (3, .int .i64 (x0.D_.length : Int)), (23, .bool s36)], [.box [.bool x0.Neg_, lsv (encI .u8) 1 x0.D_, .int .i64 x0.E_]])) s36 ?_ ?_
      · refine K.region (by kernel_rfl) ?_
        refine RJ.seg 3 [1, 2, 3, 14] (L2 := [(1, .ptr 0 0), (2, .bool false), (3, .int .i64 (x0.D_.length : Int)), (14, .bool ((decide ((x0.D_.length : Int) > 1000))))]) (H2 := [.box [.bool x0.Neg_, lsv (encI .u8) 1 x0.D_, .int .i64 x0.E_]]) (by kernel_rfl) ?_
        refine RJ.caseB 14 (b := (decide ((x0.D_.length : Int) > 1000))) (by kernel_rfl) (fun hb41 => ?_) (fun hb41 => ?_)
        · have h42 := condT hb41 hy38
          refine RJ.seg 9 [1, 2, 3, 23] (L2 := [(1, .ptr 0 0), (2, .bool false), (3, .int .i64 (x0.D_.length : Int)), (23, .bool true)]) (H2 := [.box [.bool x0.Neg_, lsv (encI .u8) 1 x0.D_, .int .i64 x0.E_]]) (by kernel_rfl) ?_
          refine RJ.end (by kernel_rfl) ?_
          obtain rfl := Option.some.inj h42
          exact PJ.cutN [1, 2, 3, 23] (by kernel_rfl) (by kernel_rfl)
        · have h43 := condF hb41 hy38
          refine RJ.seg 5 [1, 2, 3, 19] (L2 := [(1, .ptr 0 0), (2, .bool false), (3, .int .i64 (x0.D_.length : Int)), (19, .bool ((decide (x0.E_ < (-1000)))))]) (H2 := [.box [.bool x0.Neg_, lsv (encI .u8) 1 x0.D_, .int .i64 x0.E_]]) (by kernel_rfl) ?_
          refine RJ.caseB 19 (b := (decide (x0.E_ < (-1000)))) (by kernel_rfl) (fun hb44 => ?_) (fun hb44 => ?_)
          · have h45 := condT hb44 h43
            refine RJ.seg 4 [1, 2, 3, 23] (L2 := [(1, .ptr 0 0), (2, .bool false), (3, .int .i64 (x0.D_.length : Int)), (23, .bool true)]) (H2 := [.box [.bool x0.Neg_, lsv (encI .u8) 1 x0.D_, .int .i64 x0.E_]]) (by kernel_rfl) ?_
            refine RJ.end (by kernel_rfl) ?_
            obtain rfl := Option.some.inj h45
            exact PJ.cutN [1, 2, 3, 23] (by kernel_rfl) (by kernel_rfl)
          · have h46 := condF hb44 h43
            refine RJ.seg 4 [1, 2, 3, 23] (L2 := [(1, .ptr 0 0), (2, .bool false), (3, .int .i64 (x0.D_.length : Int)), (23, .bool (decide (x0.E_ > 1000)))]) (H2 := [.box [.bool x0.Neg_, lsv (encI .u8) 1 x0.D_, .int .i64 x0.E_]]) (by kernel_rfl) ?_
            refine RJ.end (by kernel_rfl) ?_
            obtain rfl := Option.some.inj h46
            exact PJ.cutN [1, 2, 3, 23] (by kernel_rfl) (by kernel_rfl)
      · refine J.caseB 23 (b := s36) (by kernel_rfl) (fun hb47 => ?_) (fun hb47 => ?_)
        · have h48 := condT hb47 h40
          refine K.condT (by kernel_rfl) ?_
          refine K.seq (by kernel_rfl) ?_
          refine K.region (by kernel_rfl) ?_
          refine RJ.seg 1 [1, 2, 3] (L2 := [(1, .ptr 0 0), (2, .bool false), (3, .int .i64 (x0.D_.length : Int))]) (H2 := [.box [.bool x0.Neg_, lsv (encI .u8) 1 x0.D_, .int .i64 x0.E_]]) (by kernel_rfl) ?_
          refine RJ.end (by kernel_rfl) ?_
          refine PJ.next ?_
          refine K.ret (by kernel_rfl) ?_
          obtain rfl := Option.some.inj h48
          have h50 := joinX_inr h28
          refine PJ.cutXr (fun e => nomatch e) ?_
          obtain rfl := Option.some.inj h50
          exact K.ret0 (.inr rfl) hFn hFH hFD (by kernel_rfl) (by kernel_rfl) (by kernel_rfl)
        · have h49 := condF hb47 h40
          refine K.condF (by kernel_rfl) ?_
          refine K.skip (by kernel_rfl) ?_
          obtain rfl := Option.some.inj h49
          exact PJ.cutXl [1, 2, 3] (by kernel_rfl) (by kernel_rfl)
    · subst hs
      have h29 := joinX_inl h28
      obtain ⟨s62, hy64, h66⟩ := bindS h29
      refine K.cutN (by kernel_rfl) (fun (s62 : Bool) => ([(2, .bool s62)], [])) s62 ?_ ?_
      · refine K.region (by kernel_rfl) ?_
        refine RJ.seg 2 [1, 2, 3, 25] (L2 := [(1, .ptr 0 0), (2, .bool false), (3, .int .i64 (x0.D_.length : Int)), (25, lsv (encI .u8) 1 x0.D_)]) (H2 := [.box [.bool x0.Neg_, lsv (encI .u8) 1 x0.D_, .int .i64 x0.E_]]) (by kernel_rfl) ?_
        obtain ⟨hm, h67⟩ := asrt hy64
        refine RJ.rel (d := (some 26)) (ef := ⟨.ep (((x0.D_.flatMap (encI .u8)).drop ((0 : Int).toNat * 1)).take 1), [], []⟩) (ef' := ⟨.ep ((encI .u8) (nth x0.D_ 0)), [], []⟩) (c := inR 0 x0.D_.length) (tr2 := []) (H2 := [.box [.bool x0.Neg_, lsv (encI .u8) 1 x0.D_, .int .i64 x0.E_]]) (by kernel_rfl) hm (fun hc => N.idx (encI_len .u8) hc) (by kernel_rfl) ?_
        refine RJ.seg 3 [1, 2, 3, 29] (L2 := [(1, .ptr 0 0), (2, .bool false), (3, .int .i64 (x0.D_.length : Int)), (29, .bool ((decide (¬ (nth x0.D_ 0) = 0))))]) (H2 := [.box [.bool x0.Neg_, lsv (encI .u8) 1 x0.D_, .int .i64 x0.E_]]) (by kernel_rfl) ?_
        refine RJ.caseB 29 (b := (decide (¬ (nth x0.D_ 0) = 0))) (by kernel_rfl) (fun hb68 => ?_) (fun hb68 => ?_)
        · have h69 := condT hb68 h67
          refine RJ.seg 4 [1, 2, 29, 31, 33] (L2 := [(1, .ptr 0 0), (2, .bool false), (29, .bool true), (31, lsv (encI .u8) 1 x0.D_), (33, .int .i64 ((IntKind.wrap .i64 ((x0.D_.length : Int) - 1))))]) (H2 := [.box [.bool x0.Neg_, lsv (encI .u8) 1 x0.D_, .int .i64 x0.E_]]) (by kernel_rfl) ?_
          obtain ⟨hm, h71⟩ := asrt h69
          refine RJ.rel (d := (some 34)) (ef := ⟨.ep (((x0.D_.flatMap (encI .u8)).drop (((IntKind.wrap .i64 ((x0.D_.length : Int) - 1)) : Int).toNat * 1)).take 1), [], []⟩) (ef' := ⟨.ep ((encI .u8) (nth x0.D_ ((IntKind.wrap .i64 ((x0.D_.length : Int) - 1))))), [], []⟩) (c := inR ((IntKind.wrap .i64 ((x0.D_.length : Int) - 1))) x0.D_.length) (tr2 := []) (H2 := [.box [.bool x0.Neg_, lsv (encI .u8) 1 x0.D_, .int .i64 x0.E_]]) (by kernel_rfl) hm (fun hc => N.idx (encI_len .u8) hc) (by kernel_rfl) ?_
          refine RJ.seg 4 [1, 2, 38] (L2 := [(1, .ptr 0 0), (2, .bool false), (38, .bool ((decide (¬ ((nth x0.D_ ((IntKind.wrap .i64 ((x0.D_.length : Int) - 1))))) = 0))))]) (H2 := [.box [.bool x0.Neg_, lsv (encI .u8) 1 x0.D_, .int .i64 x0.E_]]) (by kernel_rfl) ?_
          refine RJ.caseB 38 (b := (decide (¬ ((nth x0.D_ ((IntKind.wrap .i64 ((x0.D_.length : Int) - 1))))) = 0))) (by kernel_rfl) (fun hb72 => ?_) (fun hb72 => ?_)
          · have h73 := condT hb72 h71
            refine RJ.seg 2 [2, 38, 40] (L2 := [(2, .bool false), (38, .bool true), (40, lsv (encI .u8) 1 x0.D_)]) (H2 := [.box [.bool x0.Neg_, lsv (encI .u8) 1 x0.D_, .int .i64 x0.E_]]) (by kernel_rfl) ?_
            obtain ⟨y75, hy76, h77⟩ := bindS h73
            refine RJ.call0 (d := (some 41)) (f := 37) (args := [lsv (encI .u8) 1 x0.D_]) (v := .bool y75) (tr2 := []) (by kernel_rfl) (by kernel_rfl) (.cons (Le.refl _) .nil) (dec_figures_ok hy76) (by kernel_rfl) ?_
            refine RJ.seg 2 [2] (L2 := [(2, .bool y75)]) (H2 := [.box [.bool x0.Neg_, lsv (encI .u8) 1 x0.D_, .int .i64 x0.E_]]) (by kernel_rfl) ?_
            refine RJ.end (by kernel_rfl) ?_
            obtain rfl := Option.some.inj h77
            refine PJ.wk (Wk.sel (L2 := [(2, .bool y75)]) (H2 := []) 0 (by rw [hFH]; rfl) hFD [] (by kernel_rfl) (by kernel_rfl) (by decide) (by kernel_rfl) (by kernel_rfl) (by kernel_rfl) (by kernel_rfl)) ?_
            exact PJ.cutN [2] (by kernel_rfl) (by kernel_rfl)
          · have h74 := condF hb72 h71
            refine RJ.seg 5 [2] (L2 := [(2, .bool false)]) (H2 := [.box [.bool x0.Neg_, lsv (encI .u8) 1 x0.D_, .int .i64 x0.E_]]) (by kernel_rfl) ?_
            refine RJ.end (by kernel_rfl) ?_
            obtain rfl := Option.some.inj h74
            refine PJ.wk (Wk.sel (L2 := [(2, .bool false)]) (H2 := []) 0 (by rw [hFH]; rfl) hFD [] (by kernel_rfl) (by kernel_rfl) (by decide) (by kernel_rfl) (by kernel_rfl) (by kernel_rfl) (by kernel_rfl)) ?_
            exact PJ.cutN [2] (by kernel_rfl) (by kernel_rfl)
        · have h70 := condF hb68 h67
          refine RJ.seg 14 [2] (L2 := [(2, .bool false)]) (H2 := [.box [.bool x0.Neg_, lsv (encI .u8) 1 x0.D_, .int .i64 x0.E_]]) (by kernel_rfl) ?_
          refine RJ.end (by kernel_rfl) ?_
          obtain rfl := Option.some.inj h70
          refine PJ.wk (Wk.sel (L2 := [(2, .bool false)]) (H2 := []) 0 (by rw [hFH]; rfl) hFD [] (by kernel_rfl) (by kernel_rfl) (by decide) (by kernel_rfl) (by kernel_rfl) (by kernel_rfl) (by kernel_rfl)) ?_
          exact PJ.cutN [2] (by kernel_rfl) (by kernel_rfl)
      · refine K.ret (by kernel_rfl) ?_
        obtain rfl := Option.some.inj h66
        exact K.ret0 (.inr rfl) hFn hFH hFD (by kernel_rfl) (by kernel_rfl) (by kernel_rfl)

structure St70 where
  Dec_ : St23
  deriving Inhabited, DecidableEq
def encSt70 (x : St70) : List SV := [.bool x.Dec_.Neg_, lsv (encI .u8) 1 x.Dec_.D_, .int .i64 x.Dec_.E_]
theorem encSt70_len (x : St70) : (encSt70 x).length = 3 := rfl

def dec_work__mag (x0 : St70) : Option (Int) :=
  (bif (decide ((x0.Dec_.D_.length : Int) = 0)) then (some 0) else (some (IntKind.wrap .i64 (((IntKind.wrap .i64 (x0.Dec_.E_ + (x0.Dec_.D_.length : Int)))) - 1))))
theorem dec_work__mag_ok {x0 : St70} {r : Int} (h : dec_work__mag x0 = some r) : SC Try.prog 51 [.agg [.bool x0.Dec_.Neg_, lsv (encI .u8) 1 x0.Dec_.D_, .int .i64 x0.Dec_.E_]] [] (.int .i64 r) [] := by
  refine K.fn (fn := Try.f51) (by kernel_rfl) (by kernel_rfl) (by kernel_rfl) (by kernel_rfl) (by kernel_rfl) (fun F hFn hFH hFD => ?_)
  unfold dec_work__mag at h
  refine K.seq (by kernel_rfl) ?_
  refine K.region (by kernel_rfl) ?_
  refine RJ.seg 2 [1, 2] (L2 := [(1, .ptr 0 0), (2, .int .i64 0)]) (H2 := [.box [.bool x0.Dec_.Neg_, lsv (encI .u8) 1 x0.Dec_.D_, .int .i64 x0.Dec_.E_]]) (by kernel_rfl) ?_
  refine RJ.end (by kernel_rfl) ?_
  refine PJ.next ?_
  refine K.seq (by kernel_rfl) ?_
  refine K.seq (by kernel_rfl) ?_
  refine K.region (by kernel_rfl) ?_
  refine RJ.seg 5 [1, 2, 7] (L2 := [(1, .ptr 0 0), (2, .int .i64 0), (7, .bool ((decide ((x0.Dec_.D_.length : Int) = 0))))]) (H2 := [.box [.bool x0.Dec_.Neg_, lsv (encI .u8) 1 x0.Dec_.D_, .int .i64 x0.Dec_.E_]]) (by kernel_rfl) ?_
  refine RJ.end (by kernel_rfl) ?_
  refine PJ.next ?_
  refine J.caseB 7 (b := (decide ((x0.Dec_.D_.length : Int) = 0))) (by kernel_rfl) (fun hb1 => ?_) (fun hb1 => ?_)
  · have h2 := condT hb1 h
    refine K.condT (by kernel_rfl) ?_
    refine K.seq (by kernel_rfl) ?_
    refine K.region (by kernel_rfl) ?_
    refine RJ.seg 1 [1, 2] (L2 := [(1, .ptr 0 0), (2, .int .i64 0)]) (H2 := [.box [.bool x0.Dec_.Neg_, lsv (encI .u8) 1 x0.Dec_.D_, .int .i64 x0.Dec_.E_]]) (by kernel_rfl) ?_
    refine RJ.end (by kernel_rfl) ?_
    refine PJ.next ?_
    refine K.ret (by kernel_rfl) ?_
    refine PJ.passRet ?_
    obtain rfl := Option.some.inj h2
    exact K.ret0 (.inr rfl) hFn hFH hFD (by kernel_rfl) (by kernel_rfl) (by kernel_rfl)
  · have h3 := condF hb1 h
    refine K.condF (by kernel_rfl) ?_
    refine K.skip (by kernel_rfl) ?_
    refine PJ.next ?_
    refine K.seq (by kernel_rfl) ?_
    refine K.region (by kernel_rfl) ?_
    refine RJ.seg 10 [2] (L2 := [(2, .int .i64 ((IntKind.wrap .i64 (((IntKind.wrap .i64 (x0.Dec_.E_ + (x0.Dec_.D_.length : Int)))) - 1))))]) (H2 := [.box [.bool x0.Dec_.Neg_, lsv (encI .u8) 1 x0.Dec_.D_, .int .i64 x0.Dec_.E_]]) (by kernel_rfl) ?_
    refine RJ.end (by kernel_rfl) ?_
    refine PJ.next ?_
    refine K.ret (by kernel_rfl) ?_
    obtain rfl := Option.some.inj h3
    exact K.ret0 (.inr rfl) hFn hFH hFD (by kernel_rfl) (by kernel_rfl) (by kernel_rfl)

def dec_Mag (x0 : St23) : Option (Int) :=
  (Option.bind (dec_work__mag (⟨x0⟩ : St70)) fun y1 => (some y1))
theorem dec_Mag_ok {x0 : St23} {r : Int} (h : dec_Mag x0 = some r) : SC Try.prog 35 [.agg [.bool x0.Neg_, lsv (encI .u8) 1 x0.D_, .int .i64 x0.E_]] [] (.int .i64 r) [] := by
  refine K.fn (fn := Try.f35) (by kernel_rfl) (by kernel_rfl) (by kernel_rfl) (by kernel_rfl) (by kernel_rfl) (fun F hFn hFH hFD => ?_)
  unfold dec_Mag at h
  refine K.seq (by kernel_rfl) ?_
  refine K.region (by kernel_rfl) ?_
  refine RJ.seg 2 [1, 2] (L2 := [(1, .ptr 0 0), (2, .int .i64 0)]) (H2 := [.box [.bool x0.Neg_, lsv (encI .u8) 1 x0.D_, .int .i64 x0.E_]]) (by kernel_rfl) ?_
  refine RJ.end (by kernel_rfl) ?_
  refine PJ.next ?_
  refine K.seq (by kernel_rfl) ?_
  refine K.region (by kernel_rfl) ?_
  refine RJ.seg 2 [2, 4] (L2 := [(2, .int .i64 0), (4, .agg [.bool x0.Neg_, lsv (encI .u8) 1 x0.D_, .int .i64 x0.E_])]) (H2 := [.box [.bool x0.Neg_, lsv (encI .u8) 1 x0.D_, .int .i64 x0.E_]]) (by kernel_rfl) ?_
  obtain ⟨y1, hy2, h3⟩ := bindS h
  refine RJ.call0 (d := (some 5)) (f := 51) (args := [.agg [.bool x0.Neg_, lsv (encI .u8) 1 x0.D_, .int .i64 x0.E_]]) (v := .int .i64 y1) (tr2 := []) (by kernel_rfl) (by kernel_rfl) (.cons (Le.refl _) .nil) (dec_work__mag_ok hy2) (by kernel_rfl) ?_
  refine RJ.seg 1 [2] (L2 := [(2, .int .i64 y1)]) (H2 := [.box [.bool x0.Neg_, lsv (encI .u8) 1 x0.D_, .int .i64 x0.E_]]) (by kernel_rfl) ?_
  refine RJ.end (by kernel_rfl) ?_
  refine PJ.next ?_
  refine K.ret (by kernel_rfl) ?_
  obtain rfl := Option.some.inj h3
  exact K.ret0 (.inr rfl) hFn hFH hFD (by kernel_rfl) (by kernel_rfl) (by kernel_rfl)

def dec_work__figure (x0 : St70) (x1 : Int) : Option (Int) :=
  (Option.bind (Option.bind (bif (decide (x1 < 0)) then (some true) else (some ((decide (x1 ≥ (x0.Dec_.D_.length : Int)))))) fun (s24 : Bool) => (bif s24 then (some (.inr 0)) else (some (.inl ())))) (joinX fun (s16 : Unit) => (bif inR x1 x0.Dec_.D_.length then (some (nth x0.Dec_.D_ x1)) else none)))
theorem dec_work__figure_ok {x0 : St70} {x1 : Int} {r : Int} (h : dec_work__figure x0 x1 = some r) : SC Try.prog 52 [.agg [.bool x0.Dec_.Neg_, lsv (encI .u8) 1 x0.Dec_.D_, .int .i64 x0.Dec_.E_], .int .i64 x1] [] (.int .u8 r) [] := by
  refine K.fn (fn := Try.f52) (by kernel_rfl) (by kernel_rfl) (by kernel_rfl) (by kernel_rfl) (by kernel_rfl) (fun F hFn hFH hFD => ?_)
  unfold dec_work__figure at h
  refine K.seq (by kernel_rfl) ?_
  refine K.region (by kernel_rfl) ?_
  refine RJ.seg 2 [1, 2, 4] (L2 := [(1, .int .i64 x1), (2, .ptr 0 0), (4, .int .u8 0)]) (H2 := [.box [.bool x0.Dec_.Neg_, lsv (encI .u8) 1 x0.Dec_.D_, .int .i64 x0.Dec_.E_]]) (by kernel_rfl) ?_
  refine RJ.end (by kernel_rfl) ?_
  refine PJ.next ?_
  obtain ⟨y17, hy18, h19⟩ := bindS h
  refine K.cutX (by kernel_rfl) (fun (s16 : Unit) => ([(1, .int .i64 x1), (2, .ptr 0 0), (4, .int .u8 0)], [.box [.bool x0.Dec_.Neg_, lsv (encI .u8) 1 x0.Dec_.D_, .int .i64 x0.Dec_.E_]])) y17 ?_ (fun s16 hs => ?_)
  · obtain ⟨s24, hy26, h28⟩ := bindS hy18
    refine K.cutN (by kernel_rfl) (fun (s24 : Bool) => ([(1, .int .i64 x1), (2, .ptr 0 0), (4, .int .u8 0), (14, .bool s24)], [.box [.bool x0.Dec_.Neg_, lsv (encI .u8) 1 x0.Dec_.D_, .int .i64 x0.Dec_.E_]])) s24 ?_ ?_
    · refine K.region (by kernel_rfl) ?_
      refine RJ.seg 3 [1, 2, 4, 7] (L2 := [(1, .int .i64 x1), (2, .ptr 0 0), (4, .int .u8 0), (7, .bool (decide (x1 < 0)))]) (H2 := [.box [.bool x0.Dec_.Neg_, lsv (encI .u8) 1 x0.Dec_.D_, .int .i64 x0.Dec_.E_]]) (by kernel_rfl) ?_
      refine RJ.caseB 7 (b := (decide (x1 < 0))) (by kernel_rfl) (fun hb29 => ?_) (fun hb29 => ?_)
      · have h30 := condT hb29 hy26
        refine RJ.seg 7 [1, 2, 4, 14] (L2 := [(1, .int .i64 x1), (2, .ptr 0 0), (4, .int .u8 0), (14, .bool true)]) (H2 := [.box [.bool x0.Dec_.Neg_, lsv (encI .u8) 1 x0.Dec_.D_, .int .i64 x0.Dec_.E_]]) (by kernel_rfl) ?_
        refine RJ.end (by kernel_rfl) ?_
        obtain rfl := Option.some.inj h30
        exact PJ.cutN [1, 2, 4, 14] (by kernel_rfl) (by kernel_rfl)
      · have h31 := condF hb29 hy26
        refine RJ.seg 7 [1, 2, 4, 14] (L2 := [(1, .int .i64 x1), (2, .ptr 0 0), (4, .int .u8 0), (14, .bool ((decide (x1 ≥ (x0.Dec_.D_.length : Int)))))]) (H2 := [.box [.bool x0.Dec_.Neg_, lsv (encI .u8) 1 x0.Dec_.D_, .int .i64 x0.Dec_.E_]]) (by kernel_rfl) ?_
        refine RJ.end (by kernel_rfl) ?_
        obtain rfl := Option.some.inj h31
        exact PJ.cutN [1, 2, 4, 14] (by kernel_rfl) (by kernel_rfl)
    · refine J.caseB 14 (b := s24) (by kernel_rfl) (fun hb32 => ?_) (fun hb32 => ?_)
      · have h33 := condT hb32 h28
        refine K.condT (by kernel_rfl) ?_
        refine K.seq (by kernel_rfl) ?_
        refine K.region (by kernel_rfl) ?_
        refine RJ.seg 1 [1, 2, 4] (L2 := [(1, .int .i64 x1), (2, .ptr 0 0), (4, .int .u8 0)]) (H2 := [.box [.bool x0.Dec_.Neg_, lsv (encI .u8) 1 x0.Dec_.D_, .int .i64 x0.Dec_.E_]]) (by kernel_rfl) ?_
        refine RJ.end (by kernel_rfl) ?_
        refine PJ.next ?_
        refine K.ret (by kernel_rfl) ?_
        obtain rfl := Option.some.inj h33
        have h35 := joinX_inr h19
        refine PJ.cutXr (fun e => nomatch e) ?_
        obtain rfl := Option.some.inj h35
        exact K.ret0 (.inr rfl) hFn hFH hFD (by kernel_rfl) (by kernel_rfl) (by kernel_rfl)
      · have h34 := condF hb32 h28
        refine K.condF (by kernel_rfl) ?_
        refine K.skip (by kernel_rfl) ?_
        obtain rfl := Option.some.inj h34
        exact PJ.cutXl [1, 2, 4] (by kernel_rfl) (by kernel_rfl)
  · subst hs
    have h20 := joinX_inl h19
    refine K.seq (by kernel_rfl) ?_
    refine K.region (by kernel_rfl) ?_
    refine RJ.seg 4 [4, 17, 18] (L2 := [(4, .int .u8 0), (17, lsv (encI .u8) 1 x0.Dec_.D_), (18, .int .i64 x1)]) (H2 := [.box [.bool x0.Dec_.Neg_, lsv (encI .u8) 1 x0.Dec_.D_, .int .i64 x0.Dec_.E_]]) (by kernel_rfl) ?_
    obtain ⟨hm, h36⟩ := asrt h20
    refine RJ.rel (d := (some 19)) (ef := ⟨.ep (((x0.Dec_.D_.flatMap (encI .u8)).drop ((x1 : Int).toNat * 1)).take 1), [], []⟩) (ef' := ⟨.ep ((encI .u8) (nth x0.Dec_.D_ x1)), [], []⟩) (c := inR x1 x0.Dec_.D_.length) (tr2 := []) (H2 := [.box [.bool x0.Dec_.Neg_, lsv (encI .u8) 1 x0.Dec_.D_, .int .i64 x0.Dec_.E_]]) (by kernel_rfl) hm (fun hc => N.idx (encI_len .u8) hc) (by kernel_rfl) ?_
    refine RJ.seg 2 [4] (L2 := [(4, .int .u8 (nth x0.Dec_.D_ x1))]) (H2 := [.box [.bool x0.Dec_.Neg_, lsv (encI .u8) 1 x0.Dec_.D_, .int .i64 x0.Dec_.E_]]) (by kernel_rfl) ?_
    refine RJ.end (by kernel_rfl) ?_
    refine PJ.next ?_
    refine K.ret (by kernel_rfl) ?_
    obtain rfl := Option.some.inj h36
    exact K.ret0 (.inr rfl) hFn hFH hFD (by kernel_rfl) (by kernel_rfl) (by kernel_rfl)

def dec_At (x0 : St23) (x1 : Int) : Option (Int) :=
  (Option.bind (Option.bind (bif (decide (x1 < x0.E_)) then (some true) else (Option.bind (dec_work__mag (⟨x0⟩ : St70)) fun y41 => (some (decide (x1 > y41))))) fun (s33 : Bool) => (bif s33 then (some (.inr 0)) else (some (.inl ())))) (joinX fun (s22 : Unit) => (Option.bind (dec_work__mag (⟨x0⟩ : St70)) fun y48 => (Option.bind (dec_work__figure (⟨x0⟩ : St70) (IntKind.wrap .i64 (y48 - x1))) fun y51 => (some y51)))))
theorem dec_At_ok {x0 : St23} {x1 : Int} {r : Int} (h : dec_At x0 x1 = some r) : SC Try.prog 38 [.agg [.bool x0.Neg_, lsv (encI .u8) 1 x0.D_, .int .i64 x0.E_], .int .i64 x1] [] (.int .u8 r) [] := by
  refine K.fn (fn := Try.f38) (by kernel_rfl) (by kernel_rfl) (by kernel_rfl) (by kernel_rfl) (by kernel_rfl) (fun F hFn hFH hFD => ?_)
  unfold dec_At at h
  refine K.seq (by kernel_rfl) ?_
  refine K.region (by kernel_rfl) ?_
  refine RJ.seg 2 [1, 2, 4] (L2 := [(1, .int .i64 x1), (2, .ptr 0 0), (4, .int .u8 0)]) (H2 := [.box [.bool x0.Neg_, lsv (encI .u8) 1 x0.D_, .int .i64 x0.E_]]) (by kernel_rfl) ?_
  refine RJ.end (by kernel_rfl) ?_
  refine PJ.next ?_
  refine K.seq (by kernel_rfl) ?_
  refine K.region (by kernel_rfl) ?_
  refine RJ.seg 4 [1, 4, 5] (L2 := [(1, .int .i64 x1), (4, .int .u8 0), (5, .ptr 1 0)]) (H2 := [.box [.bool x0.Neg_, lsv (encI .u8) 1 x0.D_, .int .i64 x0.E_], .box [.bool x0.Neg_, lsv (encI .u8) 1 x0.D_, .int .i64 x0.E_]]) (by kernel_rfl) ?_
  refine RJ.end (by kernel_rfl) ?_
  refine PJ.next ?_
  obtain ⟨y23, hy24, h25⟩ := bindS h
  refine K.cutX (by kernel_rfl) (fun (s22 : Unit) => ([(1, .int .i64 x1), (4, .int .u8 0), (5, .ptr 0 0)], [.box [.bool x0.Neg_, lsv (encI .u8) 1 x0.D_, .int .i64 x0.E_]])) y23 ?_ (fun s22 hs => ?_)
  · obtain ⟨s33, hy35, h37⟩ := bindS hy24
    refine K.cutN (by kernel_rfl) (fun (s33 : Bool) => ([(1, .int .i64 x1), (4, .int .u8 0), (5, .ptr 0 0), (18, .bool s33)], [.box [.bool x0.Neg_, lsv (encI .u8) 1 x0.D_, .int .i64 x0.E_]])) s33 ?_ ?_
    · refine K.region (by kernel_rfl) ?_
      refine RJ.seg 6 [1, 4, 5, 13] (L2 := [(1, .int .i64 x1), (4, .int .u8 0), (5, .ptr 1 0), (13, .bool (decide (x1 < x0.E_)))]) (H2 := [.box [.bool x0.Neg_, lsv (encI .u8) 1 x0.D_, .int .i64 x0.E_], .box [.bool x0.Neg_, lsv (encI .u8) 1 x0.D_, .int .i64 x0.E_]]) (by kernel_rfl) ?_
      refine RJ.caseB 13 (b := (decide (x1 < x0.E_))) (by kernel_rfl) (fun hb38 => ?_) (fun hb38 => ?_)
      · have h39 := condT hb38 hy35
        refine RJ.seg 5 [1, 4, 5, 18] (L2 := [(1, .int .i64 x1), (4, .int .u8 0), (5, .ptr 1 0), (18, .bool true)]) (H2 := [.box [.bool x0.Neg_, lsv (encI .u8) 1 x0.D_, .int .i64 x0.E_], .box [.bool x0.Neg_, lsv (encI .u8) 1 x0.D_, .int .i64 x0.E_]]) (by kernel_rfl) ?_
        refine RJ.end (by kernel_rfl) ?_
        obtain rfl := Option.some.inj h39
        refine PJ.wk (Wk.sel (L2 := [(1, .int .i64 x1), (4, .int .u8 0), (5, .ptr 0 0), (18, .bool true)]) (H2 := [.box [.bool x0.Neg_, lsv (encI .u8) 1 x0.D_, .int .i64 x0.E_]]) 0 (by rw [hFH]; rfl) hFD [1] (by kernel_rfl) (by kernel_rfl) (by decide) (by kernel_rfl) (by kernel_rfl) (by kernel_rfl) (by kernel_rfl)) ?_
        exact PJ.cutN [1, 4, 5, 18] (by kernel_rfl) (by kernel_rfl)
      · have h40 := condF hb38 hy35
        refine RJ.seg 2 [1, 4, 5, 13, 14, 15] (L2 := [(1, .int .i64 x1), (4, .int .u8 0), (5, .ptr 1 0), (13, .bool false), (14, .int .i64 x1), (15, .agg [.bool x0.Neg_, lsv (encI .u8) 1 x0.D_, .int .i64 x0.E_])]) (H2 := [.box [.bool x0.Neg_, lsv (encI .u8) 1 x0.D_, .int .i64 x0.E_], .box [.bool x0.Neg_, lsv (encI .u8) 1 x0.D_, .int .i64 x0.E_]]) (by kernel_rfl) ?_
        obtain ⟨y41, hy42, h43⟩ := bindS h40
        refine RJ.call0 (d := (some 16)) (f := 51) (args := [.agg [.bool x0.Neg_, lsv (encI .u8) 1 x0.D_, .int .i64 x0.E_]]) (v := .int .i64 y41) (tr2 := []) (by kernel_rfl) (by kernel_rfl) (.cons (Le.refl _) .nil) (dec_work__mag_ok hy42) (by kernel_rfl) ?_
        refine RJ.seg 2 [1, 4, 5, 18] (L2 := [(1, .int .i64 x1), (4, .int .u8 0), (5, .ptr 1 0), (18, .bool (decide (x1 > y41)))]) (H2 := [.box [.bool x0.Neg_, lsv (encI .u8) 1 x0.D_, .int .i64 x0.E_], .box [.bool x0.Neg_, lsv (encI .u8) 1 x0.D_, .int .i64 x0.E_]]) (by kernel_rfl) ?_
        refine RJ.end (by kernel_rfl) ?_
        obtain rfl := Option.some.inj h43
        refine PJ.wk (Wk.sel (L2 := [(1, .int .i64 x1), (4, .int .u8 0), (5, .ptr 0 0), (18, .bool (decide (x1 > y41)))]) (H2 := [.box [.bool x0.Neg_, lsv (encI .u8) 1 x0.D_, .int .i64 x0.E_]]) 0 (by rw [hFH]; rfl) hFD [1] (by kernel_rfl) (by kernel_rfl) (by decide) (by kernel_rfl) (by kernel_rfl) (by kernel_rfl) (by kernel_rfl)) ?_
        exact PJ.cutN [1, 4, 5, 18] (by kernel_rfl) (by kernel_rfl)
    · refine J.caseB 18 (b := s33) (by kernel_rfl) (fun hb44 => ?_) (fun hb44 => ?_)
      · have h45 := condT hb44 h37
        refine K.condT (by kernel_rfl) ?_
        refine K.seq (by kernel_rfl) ?_
        refine K.region (by kernel_rfl) ?_
        refine RJ.seg 1 [1, 4, 5] (L2 := [(1, .int .i64 x1), (4, .int .u8 0), (5, .ptr 0 0)]) (H2 := [.box [.bool x0.Neg_, lsv (encI .u8) 1 x0.D_, .int .i64 x0.E_]]) (by kernel_rfl) ?_
        refine RJ.end (by kernel_rfl) ?_
        refine PJ.next ?_
        refine K.ret (by kernel_rfl) ?_
        obtain rfl := Option.some.inj h45
        have h47 := joinX_inr h25
        refine PJ.cutXr (fun e => nomatch e) ?_
        obtain rfl := Option.some.inj h47
        exact K.ret0 (.inr rfl) hFn hFH hFD (by kernel_rfl) (by kernel_rfl) (by kernel_rfl)
      · have h46 := condF hb44 h37
        refine K.condF (by kernel_rfl) ?_
        refine K.skip (by kernel_rfl) ?_
        obtain rfl := Option.some.inj h46
        exact PJ.cutXl [1, 4, 5] (by kernel_rfl) (by kernel_rfl)
  · subst hs
    have h26 := joinX_inl h25
    refine K.seq (by kernel_rfl) ?_
    refine J.keep [1, 4, 5] (L2 := [(1, .int .i64 x1), (4, .int .u8 0), (5, .ptr 0 0)]) (by kernel_rfl) ?_
    refine K.draw (by kernel_rfl) (by kernel_rfl) (by kernel_rfl) (H2 := [.box [.bool x0.Neg_, lsv (encI .u8) 1 x0.D_, .int .i64 x0.E_], .res, .res]) (by kernel_rfl) (n := 1) (by kernel_rfl) ?_
    refine RJ.segD 2 (tr2 := [([0, 1], []), ([0, 1], [])]) (L2 := [(20, .agg [.bool x0.Neg_, lsv (encI .u8) 1 x0.D_, .int .i64 x0.E_]), (19, .agg [.bool x0.Neg_, lsv (encI .u8) 1 x0.D_, .int .i64 x0.E_]), (1, .int .i64 x1), (4, .int .u8 0), (5, .ptr 0 0)]) (H2 := [.box [.bool x0.Neg_, lsv (encI .u8) 1 x0.D_, .int .i64 x0.E_], .res, .res]) (by kernel_rfl) ?_
    obtain ⟨y48, hy49, h50⟩ := bindS h26
    refine RJ.call0 (d := (some 21)) (f := 51) (args := [.agg [.bool x0.Neg_, lsv (encI .u8) 1 x0.D_, .int .i64 x0.E_]]) (v := .int .i64 y48) (tr2 := [([0, 1], []), ([0, 1], []), ([], [2, 3])]) (by kernel_rfl) (by kernel_rfl) (.cons (Le.refl _) .nil) (dec_work__mag_ok hy49) (by kernel_rfl) ?_
    refine RJ.segD 2 (tr2 := [([0, 1], []), ([0, 1], []), ([], [2, 3]), ([], []), ([], [])]) (L2 := [(23, .int .i64 (IntKind.wrap .i64 (y48 - x1))), (22, .int .i64 x1), (21, .int .i64 y48), (20, .agg [.bool x0.Neg_, lsv (encI .u8) 1 x0.D_, .int .i64 x0.E_]), (19, .agg [.bool x0.Neg_, lsv (encI .u8) 1 x0.D_, .int .i64 x0.E_]), (1, .int .i64 x1), (4, .int .u8 0), (5, .ptr 0 0)]) (H2 := [.box [.bool x0.Neg_, lsv (encI .u8) 1 x0.D_, .int .i64 x0.E_], .res, .res]) (by kernel_rfl) ?_
    obtain ⟨y51, hy52, h53⟩ := bindS h50
    refine RJ.call0 (d := (some 24)) (f := 52) (args := [.agg [.bool x0.Neg_, lsv (encI .u8) 1 x0.D_, .int .i64 x0.E_], .int .i64 (IntKind.wrap .i64 (y48 - x1))]) (v := .int .u8 y51) (tr2 := [([0, 1], []), ([0, 1], []), ([], [2, 3]), ([], []), ([], []), ([], [4, 5])]) (by kernel_rfl) (by kernel_rfl) (.cons (Le.refl _) (.cons (Le.refl _) .nil)) (dec_work__figure_ok hy52) (by kernel_rfl) ?_
    refine RJ.segD 1 (tr2 := [([0, 1], []), ([0, 1], []), ([], [2, 3]), ([], []), ([], []), ([], [4, 5]), ([], [])]) (L2 := [(4, .int .u8 y51), (24, .int .u8 y51), (23, .int .i64 (IntKind.wrap .i64 (y48 - x1))), (22, .int .i64 x1), (21, .int .i64 y48), (20, .agg [.bool x0.Neg_, lsv (encI .u8) 1 x0.D_, .int .i64 x0.E_]), (19, .agg [.bool x0.Neg_, lsv (encI .u8) 1 x0.D_, .int .i64 x0.E_]), (1, .int .i64 x1), (4, .int .u8 0), (5, .ptr 0 0)]) (H2 := [.box [.bool x0.Neg_, lsv (encI .u8) 1 x0.D_, .int .i64 x0.E_], .res, .res]) (by kernel_rfl) ?_
    refine RJ.end (by kernel_rfl) ?_
    refine PJ.next ?_
    refine K.ret (by kernel_rfl) ?_
    obtain rfl := Option.some.inj h53
    exact K.ret0 (.inr rfl) hFn hFH hFD (by kernel_rfl) (by kernel_rfl) (by kernel_rfl)

def round_split (x0 : St23) (x1 : Int) (x2 : Int) : Option ((List Int) × Int) :=
  (Option.bind (Option.bind (dec_Mag x0) fun y45 => (loopN (fun (s48 : Int × Int × (List Int)) => (bif (decide (s48.2.1 ≥ x2)) then (Option.bind (dec_At x0 s48.2.1) fun y76 => (bif nz x1 then (bif room (s48.2.2.length + (([(IntKind.wrap .u8 ((IntKind.wrap .i64 (Int.tdiv ((IntKind.wrap .i64 ((IntKind.wrap .i64 (s48.1 * 10)) + (IntKind.wrap .i64 y76)))) x1))))] : List Int)).length) then (bif nz x1 then (some (.inl ((Int.tmod ((IntKind.wrap .i64 ((IntKind.wrap .i64 (s48.1 * 10)) + (IntKind.wrap .i64 y76)))) x1), (IntKind.wrap .i64 (s48.2.1 - 1)), (s48.2.2 ++ (([(IntKind.wrap .u8 ((IntKind.wrap .i64 (Int.tdiv ((IntKind.wrap .i64 ((IntKind.wrap .i64 (s48.1 * 10)) + (IntKind.wrap .i64 y76)))) x1))))] : List Int)))))) else none) else none) else none)) else (some (.inr (s48.1, s48.2.2))))) big (0, y45, ([] : List Int)))) fun (s40 : Int × (List Int)) => (some (s40.2, s40.1)))
theorem round_split_ok_o {x0 : St23} {x1 : Int} {x2 : Int} {r : (List Int) × Int} (h : round_split x0 x1 x2 = some r) : SC Try.prog 26 [.agg [.bool x0.Neg_, lsv (encI .u8) 1 x0.D_, .int .i64 x0.E_], .int .i64 x1, .int .i64 x2] [] (.tup [.vc 0, .int .i64 r.2]) [vecL (encI .u8) 1 5 r.1] := by
  refine K.fn (fn := Try.f26) (by kernel_rfl) (by kernel_rfl) (by kernel_rfl) (by kernel_rfl) (by kernel_rfl) (fun F hFn hFH hFD => ?_)
  unfold round_split at h
  refine K.seq (by kernel_rfl) ?_
  refine K.region (by kernel_rfl) ?_
  refine RJ.seg 3 [1, 2, 3, 6, 7] (L2 := [(1, .int .i64 x1), (2, .int .i64 x2), (3, .ptr 0 0), (6, .nl), (7, .int .i64 0)]) (H2 := [.box [.bool x0.Neg_, lsv (encI .u8) 1 x0.D_, .int .i64 x0.E_]]) (by kernel_rfl) ?_
  refine RJ.end (by kernel_rfl) ?_
  refine PJ.next ?_
  refine K.seq (by kernel_rfl) ?_
  refine K.region (by kernel_rfl) ?_
  refine RJ.seg 1 [1, 2, 3, 6, 7, 8] (L2 := [(1, .int .i64 x1), (2, .int .i64 x2), (3, .ptr 0 0), (6, .nl), (7, .int .i64 0), (8, .nl)]) (H2 := [.box [.bool x0.Neg_, lsv (encI .u8) 1 x0.D_, .int .i64 x0.E_]]) (by kernel_rfl) ?_
  refine RJ.end (by kernel_rfl) ?_
  refine PJ.next ?_
  refine K.seq (by kernel_rfl) ?_
  refine K.region (by kernel_rfl) ?_
  refine RJ.seg 1 [1, 2, 3, 6, 7, 8, 9] (L2 := [(1, .int .i64 x1), (2, .int .i64 x2), (3, .ptr 0 0), (6, .nl), (7, .int .i64 0), (8, .nl), (9, .int .i64 0)]) (H2 := [.box [.bool x0.Neg_, lsv (encI .u8) 1 x0.D_, .int .i64 x0.E_]]) (by kernel_rfl) ?_
  refine RJ.end (by kernel_rfl) ?_
  refine PJ.next ?_
  obtain ⟨s40, hy42, h44⟩ := bindS h
  refine K.cutN (by kernel_rfl) (fun (s40 : Int × (List Int)) => ([(6, .nl), (7, .int .i64 0), (8, .vc 0), (9, .int .i64 s40.1)], [vecL (encI .u8) 1 5 s40.2])) s40 ?_ ?_
  · refine K.seq (by kernel_rfl) ?_
    refine K.region (by kernel_rfl) ?_
    refine RJ.seg 1 [1, 2, 3, 6, 7, 8, 9, 11] (L2 := [(1, .int .i64 x1), (2, .int .i64 x2), (3, .ptr 0 0), (6, .nl), (7, .int .i64 0), (8, .nl), (9, .int .i64 0), (11, .agg [.bool x0.Neg_, lsv (encI .u8) 1 x0.D_, .int .i64 x0.E_])]) (H2 := [.box [.bool x0.Neg_, lsv (encI .u8) 1 x0.D_, .int .i64 x0.E_]]) (by kernel_rfl) ?_
    obtain ⟨y45, hy46, h47⟩ := bindS hy42
    refine RJ.call0 (d := (some 12)) (f := 35) (args := [.agg [.bool x0.Neg_, lsv (encI .u8) 1 x0.D_, .int .i64 x0.E_]]) (v := .int .i64 y45) (tr2 := []) (by kernel_rfl) (by kernel_rfl) (.cons (Le.refl _) .nil) (dec_Mag_ok hy46) (by kernel_rfl) ?_
    refine RJ.seg 1 [1, 2, 3, 6, 7, 8, 9, 10] (L2 := [(1, .int .i64 x1), (2, .int .i64 x2), (3, .ptr 0 0), (6, .nl), (7, .int .i64 0), (8, .nl), (9, .int .i64 0), (10, .int .i64 y45)]) (H2 := [.box [.bool x0.Neg_, lsv (encI .u8) 1 x0.D_, .int .i64 x0.E_]]) (by kernel_rfl) ?_
    refine RJ.end (by kernel_rfl) ?_
    refine PJ.next ?_
    refine K.block 0 (by kernel_rfl) ?_
    refine J.wk (Wk.viv 8 1 5 (by kernel_rfl)) ?_
    refine K.loop (by kernel_rfl) (fun (s48 : Int × Int × (List Int)) => ([(1, .int .i64 x1), (2, .int .i64 x2), (3, .ptr 0 0), (6, .nl), (7, .int .i64 0), (8, .vc 1), (9, .int .i64 s48.1), (10, .int .i64 s48.2.1)], [.box [.bool x0.Neg_, lsv (encI .u8) 1 x0.D_, .int .i64 x0.E_], vecL (encI .u8) 1 5 s48.2.2])) h47 [1, 2, 3, 6, 7, 8, 9, 10] (by kernel_rfl) (by kernel_rfl) (fun s48 x72 hs71 => ?_)
    refine K.seq (by kernel_rfl) ?_
    refine K.seq (by kernel_rfl) ?_
    refine K.region (by kernel_rfl) ?_
    refine RJ.seg 3 [1, 2, 3, 6, 7, 8, 9, 10, 15] (L2 := [(1, .int .i64 x1), (2, .int .i64 x2), (3, .ptr 0 0), (6, .nl), (7, .int .i64 0), (8, .vc 1), (9, .int .i64 s48.1), (10, .int .i64 s48.2.1), (15, .bool (decide (s48.2.1 ≥ x2)))]) (H2 := [.box [.bool x0.Neg_, lsv (encI .u8) 1 x0.D_, .int .i64 x0.E_], vecL (encI .u8) 1 5 s48.2.2]) (by kernel_rfl) ?_
    refine RJ.end (by kernel_rfl) ?_
    refine PJ.next ?_
    refine J.caseB 15 (b := (decide (s48.2.1 ≥ x2))) (by kernel_rfl) (fun hb73 => ?_) (fun hb73 => ?_)
    · have h74 := condT hb73 hs71
      refine K.condT (by kernel_rfl) ?_
      refine K.skip (by kernel_rfl) ?_
      refine PJ.next ?_
      refine K.seq (by kernel_rfl) ?_
      refine K.block 1 (by kernel_rfl) ?_
      refine K.seq (by kernel_rfl) ?_
      refine K.region (by kernel_rfl) ?_
      refine RJ.seg 4 [1, 2, 3, 6, 7, 8, 9, 10, 19, 20, 21] (L2 := [(1, .int .i64 x1), (2, .int .i64 x2), (3, .ptr 0 0), (6, .nl), (7, .int .i64 0), (8, .vc 1), (9, .int .i64 s48.1), (10, .int .i64 s48.2.1), (19, .int .i64 (IntKind.wrap .i64 (s48.1 * 10))), (20, .agg [.bool x0.Neg_, lsv (encI .u8) 1 x0.D_, .int .i64 x0.E_]), (21, .int .i64 s48.2.1)]) (H2 := [.box [.bool x0.Neg_, lsv (encI .u8) 1 x0.D_, .int .i64 x0.E_], vecL (encI .u8) 1 5 s48.2.2]) (by kernel_rfl) ?_
      obtain ⟨y76, hy77, h78⟩ := bindS h74
      refine RJ.call0 (d := (some 22)) (f := 38) (args := [.agg [.bool x0.Neg_, lsv (encI .u8) 1 x0.D_, .int .i64 x0.E_], .int .i64 s48.2.1]) (v := .int .u8 y76) (tr2 := []) (by kernel_rfl) (by kernel_rfl) (.cons (Le.refl _) (.cons (Le.refl _) .nil)) (dec_At_ok hy77) (by kernel_rfl) ?_
      refine RJ.seg 3 [1, 2, 3, 6, 7, 8, 9, 10] (L2 := [(1, .int .i64 x1), (2, .int .i64 x2), (3, .ptr 0 0), (6, .nl), (7, .int .i64 0), (8, .vc 1), (9, .int .i64 ((IntKind.wrap .i64 ((IntKind.wrap .i64 (s48.1 * 10)) + (IntKind.wrap .i64 y76))))), (10, .int .i64 s48.2.1)]) (H2 := [.box [.bool x0.Neg_, lsv (encI .u8) 1 x0.D_, .int .i64 x0.E_], vecL (encI .u8) 1 5 s48.2.2]) (by kernel_rfl) ?_
      refine RJ.end (by kernel_rfl) ?_
      refine PJ.next ?_
      refine K.seq (by kernel_rfl) ?_
      refine K.region (by kernel_rfl) ?_
      refine RJ.seg 3 [1, 2, 3, 6, 7, 8, 9, 10, 25, 26, 27] (L2 := [(1, .int .i64 x1), (2, .int .i64 x2), (3, .ptr 0 0), (6, .nl), (7, .int .i64 0), (8, .vc 1), (9, .int .i64 ((IntKind.wrap .i64 ((IntKind.wrap .i64 (s48.1 * 10)) + (IntKind.wrap .i64 y76))))), (10, .int .i64 s48.2.1), (25, .vc 1), (26, .int .i64 ((IntKind.wrap .i64 ((IntKind.wrap .i64 (s48.1 * 10)) + (IntKind.wrap .i64 y76))))), (27, .int .i64 x1)]) (H2 := [.box [.bool x0.Neg_, lsv (encI .u8) 1 x0.D_, .int .i64 x0.E_], vecL (encI .u8) 1 5 s48.2.2]) (by kernel_rfl) ?_
      obtain ⟨hm, h79⟩ := asrt h78
      refine RJ.rel (d := (some 28)) (ef := ⟨.int .i64 (IntKind.wrap .i64 (Int.tdiv ((IntKind.wrap .i64 ((IntKind.wrap .i64 (s48.1 * 10)) + (IntKind.wrap .i64 y76)))) x1)), [], []⟩) (ef' := ⟨.int .i64 (IntKind.wrap .i64 (Int.tdiv ((IntKind.wrap .i64 ((IntKind.wrap .i64 (s48.1 * 10)) + (IntKind.wrap .i64 y76)))) x1)), [], []⟩) (c := nz x1) (tr2 := []) (H2 := [.box [.bool x0.Neg_, lsv (encI .u8) 1 x0.D_, .int .i64 x0.E_], vecL (encI .u8) 1 5 s48.2.2]) (by kernel_rfl) hm (fun hc => rfl) (by kernel_rfl) ?_
      refine RJ.seg 2 [1, 2, 3, 6, 7, 8, 9, 10, 25, 30] (L2 := [(1, .int .i64 x1), (2, .int .i64 x2), (3, .ptr 0 0), (6, .nl), (7, .int .i64 0), (8, .vc 1), (9, .int .i64 ((IntKind.wrap .i64 ((IntKind.wrap .i64 (s48.1 * 10)) + (IntKind.wrap .i64 y76))))), (10, .int .i64 s48.2.1), (25, .vc 1), (30, .vc 2)]) (H2 := [.box [.bool x0.Neg_, lsv (encI .u8) 1 x0.D_, .int .i64 x0.E_], vecL (encI .u8) 1 5 s48.2.2, vecL (encI .u8) 1 5 (([(IntKind.wrap .u8 ((IntKind.wrap .i64 (Int.tdiv ((IntKind.wrap .i64 ((IntKind.wrap .i64 (s48.1 * 10)) + (IntKind.wrap .i64 y76)))) x1))))] : List Int))]) (by kernel_rfl) ?_
      obtain ⟨hm, h80⟩ := asrt h79
      refine RJ.rel (d := (some 31)) (ef := ⟨.vc 3, [1, 2], [(1, .gone), (3, .vec (s48.2.2.length + (([(IntKind.wrap .u8 ((IntKind.wrap .i64 (Int.tdiv ((IntKind.wrap .i64 ((IntKind.wrap .i64 (s48.1 * 10)) + (IntKind.wrap .i64 y76)))) x1))))] : List Int)).length) 1 5 (s48.2.2.flatMap (encI .u8) ++ (([(IntKind.wrap .u8 ((IntKind.wrap .i64 (Int.tdiv ((IntKind.wrap .i64 ((IntKind.wrap .i64 (s48.1 * 10)) + (IntKind.wrap .i64 y76)))) x1))))] : List Int)).flatMap (encI .u8)))]⟩) (ef' := ⟨.vc 3, [1, 2], [(1, .gone), (3, vecL (encI .u8) 1 5 (s48.2.2 ++ (([(IntKind.wrap .u8 ((IntKind.wrap .i64 (Int.tdiv ((IntKind.wrap .i64 ((IntKind.wrap .i64 (s48.1 * 10)) + (IntKind.wrap .i64 y76)))) x1))))] : List Int))))]⟩) (c := room (s48.2.2.length + (([(IntKind.wrap .u8 ((IntKind.wrap .i64 (Int.tdiv ((IntKind.wrap .i64 ((IntKind.wrap .i64 (s48.1 * 10)) + (IntKind.wrap .i64 y76)))) x1))))] : List Int)).length)) (tr2 := []) (H2 := [.box [.bool x0.Neg_, lsv (encI .u8) 1 x0.D_, .int .i64 x0.E_], .gone, vecL (encI .u8) 1 5 (([(IntKind.wrap .u8 ((IntKind.wrap .i64 (Int.tdiv ((IntKind.wrap .i64 ((IntKind.wrap .i64 (s48.1 * 10)) + (IntKind.wrap .i64 y76)))) x1))))] : List Int)), vecL (encI .u8) 1 5 ((s48.2.2 ++ (([(IntKind.wrap .u8 ((IntKind.wrap .i64 (Int.tdiv ((IntKind.wrap .i64 ((IntKind.wrap .i64 (s48.1 * 10)) + (IntKind.wrap .i64 y76)))) x1))))] : List Int))))]) (by kernel_rfl) hm (fun hc => N.app) (by kernel_rfl) ?_
      refine RJ.seg 1 [1, 2, 3, 6, 7, 8, 9, 10] (L2 := [(1, .int .i64 x1), (2, .int .i64 x2), (3, .ptr 0 0), (6, .nl), (7, .int .i64 0), (8, .vc 3), (9, .int .i64 ((IntKind.wrap .i64 ((IntKind.wrap .i64 (s48.1 * 10)) + (IntKind.wrap .i64 y76))))), (10, .int .i64 s48.2.1)]) (H2 := [.box [.bool x0.Neg_, lsv (encI .u8) 1 x0.D_, .int .i64 x0.E_], .gone, vecL (encI .u8) 1 5 (([(IntKind.wrap .u8 ((IntKind.wrap .i64 (Int.tdiv ((IntKind.wrap .i64 ((IntKind.wrap .i64 (s48.1 * 10)) + (IntKind.wrap .i64 y76)))) x1))))] : List Int)), vecL (encI .u8) 1 5 ((s48.2.2 ++ (([(IntKind.wrap .u8 ((IntKind.wrap .i64 (Int.tdiv ((IntKind.wrap .i64 ((IntKind.wrap .i64 (s48.1 * 10)) + (IntKind.wrap .i64 y76)))) x1))))] : List Int))))]) (by kernel_rfl) ?_
      refine RJ.end (by kernel_rfl) ?_
      refine PJ.next ?_
      refine K.region (by kernel_rfl) ?_
      refine RJ.seg 2 [1, 2, 3, 6, 7, 8, 9, 10, 32, 33] (L2 := [(1, .int .i64 x1), (2, .int .i64 x2), (3, .ptr 0 0), (6, .nl), (7, .int .i64 0), (8, .vc 3), (9, .int .i64 ((IntKind.wrap .i64 ((IntKind.wrap .i64 (s48.1 * 10)) + (IntKind.wrap .i64 y76))))), (10, .int .i64 s48.2.1), (32, .int .i64 ((IntKind.wrap .i64 ((IntKind.wrap .i64 (s48.1 * 10)) + (IntKind.wrap .i64 y76))))), (33, .int .i64 x1)]) (H2 := [.box [.bool x0.Neg_, lsv (encI .u8) 1 x0.D_, .int .i64 x0.E_], .gone, vecL (encI .u8) 1 5 (([(IntKind.wrap .u8 ((IntKind.wrap .i64 (Int.tdiv ((IntKind.wrap .i64 ((IntKind.wrap .i64 (s48.1 * 10)) + (IntKind.wrap .i64 y76)))) x1))))] : List Int)), vecL (encI .u8) 1 5 ((s48.2.2 ++ (([(IntKind.wrap .u8 ((IntKind.wrap .i64 (Int.tdiv ((IntKind.wrap .i64 ((IntKind.wrap .i64 (s48.1 * 10)) + (IntKind.wrap .i64 y76)))) x1))))] : List Int))))]) (by kernel_rfl) ?_
      obtain ⟨hm, h81⟩ := asrt h80
      refine RJ.rel (d := (some 34)) (ef := ⟨.int .i64 (Int.tmod ((IntKind.wrap .i64 ((IntKind.wrap .i64 (s48.1 * 10)) + (IntKind.wrap .i64 y76)))) x1), [], []⟩) (ef' := ⟨.int .i64 (Int.tmod ((IntKind.wrap .i64 ((IntKind.wrap .i64 (s48.1 * 10)) + (IntKind.wrap .i64 y76)))) x1), [], []⟩) (c := nz x1) (tr2 := []) (H2 := [.box [.bool x0.Neg_, lsv (encI .u8) 1 x0.D_, .int .i64 x0.E_], .gone, vecL (encI .u8) 1 5 (([(IntKind.wrap .u8 ((IntKind.wrap .i64 (Int.tdiv ((IntKind.wrap .i64 ((IntKind.wrap .i64 (s48.1 * 10)) + (IntKind.wrap .i64 y76)))) x1))))] : List Int)), vecL (encI .u8) 1 5 ((s48.2.2 ++ (([(IntKind.wrap .u8 ((IntKind.wrap .i64 (Int.tdiv ((IntKind.wrap .i64 ((IntKind.wrap .i64 (s48.1 * 10)) + (IntKind.wrap .i64 y76)))) x1))))] : List Int))))]) (by kernel_rfl) hm (fun hc => rfl) (by kernel_rfl) ?_
      refine RJ.seg 1 [1, 2, 3, 6, 7, 8, 9, 10] (L2 := [(1, .int .i64 x1), (2, .int .i64 x2), (3, .ptr 0 0), (6, .nl), (7, .int .i64 0), (8, .vc 3), (9, .int .i64 ((Int.tmod ((IntKind.wrap .i64 ((IntKind.wrap .i64 (s48.1 * 10)) + (IntKind.wrap .i64 y76)))) x1))), (10, .int .i64 s48.2.1)]) (H2 := [.box [.bool x0.Neg_, lsv (encI .u8) 1 x0.D_, .int .i64 x0.E_], .gone, vecL (encI .u8) 1 5 (([(IntKind.wrap .u8 ((IntKind.wrap .i64 (Int.tdiv ((IntKind.wrap .i64 ((IntKind.wrap .i64 (s48.1 * 10)) + (IntKind.wrap .i64 y76)))) x1))))] : List Int)), vecL (encI .u8) 1 5 ((s48.2.2 ++ (([(IntKind.wrap .u8 ((IntKind.wrap .i64 (Int.tdiv ((IntKind.wrap .i64 ((IntKind.wrap .i64 (s48.1 * 10)) + (IntKind.wrap .i64 y76)))) x1))))] : List Int))))]) (by kernel_rfl) ?_
      refine RJ.end (by kernel_rfl) ?_
      refine PJ.blockNormal ?_
      refine PJ.next ?_
      refine K.region (by kernel_rfl) ?_
      refine RJ.seg 3 [1, 2, 3, 6, 7, 8, 9, 10] (L2 := [(1, .int .i64 x1), (2, .int .i64 x2), (3, .ptr 0 0), (6, .nl), (7, .int .i64 0), (8, .vc 3), (9, .int .i64 ((Int.tmod ((IntKind.wrap .i64 ((IntKind.wrap .i64 (s48.1 * 10)) + (IntKind.wrap .i64 y76)))) x1))), (10, .int .i64 (IntKind.wrap .i64 (s48.2.1 - 1)))]) (H2 := [.box [.bool x0.Neg_, lsv (encI .u8) 1 x0.D_, .int .i64 x0.E_], .gone, vecL (encI .u8) 1 5 (([(IntKind.wrap .u8 ((IntKind.wrap .i64 (Int.tdiv ((IntKind.wrap .i64 ((IntKind.wrap .i64 (s48.1 * 10)) + (IntKind.wrap .i64 y76)))) x1))))] : List Int)), vecL (encI .u8) 1 5 ((s48.2.2 ++ (([(IntKind.wrap .u8 ((IntKind.wrap .i64 (Int.tdiv ((IntKind.wrap .i64 ((IntKind.wrap .i64 (s48.1 * 10)) + (IntKind.wrap .i64 y76)))) x1))))] : List Int))))]) (by kernel_rfl) ?_
      refine RJ.end (by kernel_rfl) ?_
      obtain rfl := Option.some.inj h81
      refine PJ.wk (Wk.sel (L2 := [(1, .int .i64 x1), (2, .int .i64 x2), (3, .ptr 0 0), (6, .nl), (7, .int .i64 0), (8, .vc 1), (9, .int .i64 ((Int.tmod ((IntKind.wrap .i64 ((IntKind.wrap .i64 (s48.1 * 10)) + (IntKind.wrap .i64 y76)))) x1))), (10, .int .i64 (IntKind.wrap .i64 (s48.2.1 - 1)))]) (H2 := [.box [.bool x0.Neg_, lsv (encI .u8) 1 x0.D_, .int .i64 x0.E_], vecL (encI .u8) 1 5 ((s48.2.2 ++ (([(IntKind.wrap .u8 ((IntKind.wrap .i64 (Int.tdiv ((IntKind.wrap .i64 ((IntKind.wrap .i64 (s48.1 * 10)) + (IntKind.wrap .i64 y76)))) x1))))] : List Int))))]) 0 (by rw [hFH]; rfl) hFD [0, 3] (by kernel_rfl) (by kernel_rfl) (by decide) (by kernel_rfl) (by kernel_rfl) (by kernel_rfl) (by kernel_rfl)) ?_
      exact PJ.loopNext [1, 2, 3, 6, 7, 8, 9, 10] (by kernel_rfl) (by kernel_rfl)
    · have h75 := condF hb73 hs71
      refine K.condF (by kernel_rfl) ?_
      refine K.exit 0 (by kernel_rfl) ?_
      refine PJ.passExit ?_
      obtain rfl := Option.some.inj h75
      refine PJ.loopOut (fun e => nomatch e) (fun he83 => ?_)
      have h82 := congrArg some he83
      refine PJ.blockOut ?_
      obtain rfl := Option.some.inj h82
      refine PJ.wk (Wk.sel (L2 := [(6, .nl), (7, .int .i64 0), (8, .vc 0), (9, .int .i64 s48.1)]) (H2 := [vecL (encI .u8) 1 5 s48.2.2]) 0 (by rw [hFH]; rfl) hFD [1] (by kernel_rfl) (by kernel_rfl) (by decide) (by kernel_rfl) (by kernel_rfl) (by kernel_rfl) (by kernel_rfl)) ?_
      exact PJ.cutN [6, 7, 8, 9] (by kernel_rfl) (by kernel_rfl)
  · refine K.seq (by kernel_rfl) ?_
    refine K.region (by kernel_rfl) ?_
    refine RJ.seg 4 [6, 7] (L2 := [(6, .vc 0), (7, .int .i64 s40.1)]) (H2 := [vecL (encI .u8) 1 5 s40.2]) (by kernel_rfl) ?_
    refine RJ.end (by kernel_rfl) ?_
    refine PJ.next ?_
    refine K.ret (by kernel_rfl) ?_
    obtain rfl := Option.some.inj h44
    exact K.retV (H0 := []) [0] (.inr rfl) hFn hFH hFD (by kernel_rfl) (v1 := .tup [.vc 0, .int .i64 s40.1]) (by kernel_rfl) (by kernel_rfl) (by kernel_rfl) (by decide) (by kernel_rfl) (by kernel_rfl) (by kernel_rfl) (by kernel_rfl) (by kernel_rfl)

def round_below (x0 : St23) (x1 : Int) : Option (Bool) :=
  (Option.bind (bif (decide ((x0.D_.length : Int) > 0)) then (some (decide (x0.E_ < x1))) else (some false)) fun (s4 : Bool) => (some s4))
theorem round_below_ok {x0 : St23} {x1 : Int} {r : Bool} (h : round_below x0 x1 = some r) : SC Try.prog 27 [.agg [.bool x0.Neg_, lsv (encI .u8) 1 x0.D_, .int .i64 x0.E_], .int .i64 x1] [] (.bool r) [] := by
  refine K.fn (fn := Try.f27) (by kernel_rfl) (by kernel_rfl) (by kernel_rfl) (by kernel_rfl) (by kernel_rfl) (fun F hFn hFH hFD => ?_)
  unfold round_below at h
  refine K.seq (by kernel_rfl) ?_
  refine K.region (by kernel_rfl) ?_
  refine RJ.seg 2 [1, 2, 4] (L2 := [(1, .int .i64 x1), (2, .ptr 0 0), (4, .bool false)]) (H2 := [.box [.bool x0.Neg_, lsv (encI .u8) 1 x0.D_, .int .i64 x0.E_]]) (by kernel_rfl) ?_
  refine RJ.end (by kernel_rfl) ?_
  refine PJ.next ?_
  obtain ⟨s4, hy6, h8⟩ := bindS h
  refine K.cutN (by kernel_rfl) (fun (s4 : Bool) => ([(4, .bool s4)], [])) s4 ?_ ?_
  · refine K.region (by kernel_rfl) ?_
    refine RJ.seg 5 [1, 2, 4, 9] (L2 := [(1, .int .i64 x1), (2, .ptr 0 0), (4, .bool false), (9, .bool ((decide ((x0.D_.length : Int) > 0))))]) (H2 := [.box [.bool x0.Neg_, lsv (encI .u8) 1 x0.D_, .int .i64 x0.E_]]) (by kernel_rfl) ?_
    refine RJ.caseB 9 (b := (decide ((x0.D_.length : Int) > 0))) (by kernel_rfl) (fun hb9 => ?_) (fun hb9 => ?_)
    · have h10 := condT hb9 hy6
      refine RJ.seg 6 [4] (L2 := [(4, .bool (decide (x0.E_ < x1)))]) (H2 := [.box [.bool x0.Neg_, lsv (encI .u8) 1 x0.D_, .int .i64 x0.E_]]) (by kernel_rfl) ?_
      refine RJ.end (by kernel_rfl) ?_
      obtain rfl := Option.some.inj h10
      refine PJ.wk (Wk.sel (L2 := [(4, .bool (decide (x0.E_ < x1)))]) (H2 := []) 0 (by rw [hFH]; rfl) hFD [] (by kernel_rfl) (by kernel_rfl) (by decide) (by kernel_rfl) (by kernel_rfl) (by kernel_rfl) (by kernel_rfl)) ?_
      exact PJ.cutN [4] (by kernel_rfl) (by kernel_rfl)
    · have h11 := condF hb9 hy6
      refine RJ.seg 6 [4] (L2 := [(4, .bool false)]) (H2 := [.box [.bool x0.Neg_, lsv (encI .u8) 1 x0.D_, .int .i64 x0.E_]]) (by kernel_rfl) ?_
      refine RJ.end (by kernel_rfl) ?_
      obtain rfl := Option.some.inj h11
      refine PJ.wk (Wk.sel (L2 := [(4, .bool false)]) (H2 := []) 0 (by rw [hFH]; rfl) hFD [] (by kernel_rfl) (by kernel_rfl) (by decide) (by kernel_rfl) (by kernel_rfl) (by kernel_rfl) (by kernel_rfl)) ?_
      exact PJ.cutN [4] (by kernel_rfl) (by kernel_rfl)
  · refine K.ret (by kernel_rfl) ?_
    obtain rfl := Option.some.inj h8
    exact K.ret0 (.inr rfl) hFn hFH hFD (by kernel_rfl) (by kernel_rfl) (by kernel_rfl)

def slices_Clone (x0 : List Int) : Option (List Int) :=
  (bif (Nat.beq x0.length 0) then agree (some ([] : List Int)) (bif room x0.length then (some x0) else none) else (bif room x0.length then (some x0) else none))
theorem slices_Clone_ok {x0 : List Int} {r : List Int} (h : slices_Clone x0 = some r) : SC Try.prog 39 [lsv (encI .u8) 1 x0] [] (lsv (encI .u8) 1 r) [] := by
  refine K.fn (fn := Try.f39) (by kernel_rfl) (by kernel_rfl) (by kernel_rfl) (by kernel_rfl) (by kernel_rfl) (fun F hFn hFH hFD => ?_)
  unfold slices_Clone at h
  refine K.seq (by kernel_rfl) ?_
  refine K.region (by kernel_rfl) ?_
  refine RJ.seg 1 [0, 2] (L2 := [(0, lsv (encI .u8) 1 x0), (2, .nl)]) (H2 := []) (by kernel_rfl) ?_
  refine RJ.end (by kernel_rfl) ?_
  refine PJ.next ?_
  refine K.seq (by kernel_rfl) ?_
  refine K.seq (by kernel_rfl) ?_
  refine K.region (by kernel_rfl) ?_
  refine RJ.seg 1 [0, 2, 3] (L2 := [(0, lsv (encI .u8) 1 x0), (2, .nl), (3, lsv (encI .u8) 1 x0)]) (H2 := []) (by kernel_rfl) ?_
  refine RJ.isNil (d := 4) (n := x0.length) (eq := true) (by kernel_rfl) (fun b hb3 => ?_)
  cases b
  · have h2 := agreeF h
    refine RJ.end (by kernel_rfl) ?_
    refine PJ.next ?_
    refine K.condF (by kernel_rfl) ?_
    refine K.skip (by kernel_rfl) ?_
    refine PJ.next ?_
    refine K.seq (by kernel_rfl) ?_
    refine K.region (by kernel_rfl) ?_
    refine RJ.seg 2 [2, 5, 6] (L2 := [(2, .nl), (5, .nl), (6, lsv (encI .u8) 1 x0)]) (H2 := []) (by kernel_rfl) ?_
    obtain ⟨hm, h4⟩ := asrt h2
    refine RJ.rel (d := (some 7)) (ef := ⟨.vc 0, [], [(0, .vec x0.length 1 5 (x0.flatMap (encI .u8)))]⟩) (ef' := ⟨.vc 0, [], [(0, .vec x0.length 1 5 (x0.flatMap (encI .u8)))]⟩) (c := room x0.length) (tr2 := []) (H2 := [vecL (encI .u8) 1 5 x0]) (by kernel_rfl) hm (fun hc => rfl) (by kernel_rfl) ?_
    refine RJ.seg 1 [2] (L2 := [(2, .vc 0)]) (H2 := [vecL (encI .u8) 1 5 x0]) (by kernel_rfl) ?_
    refine RJ.end (by kernel_rfl) ?_
    refine PJ.next ?_
    refine K.ret (by kernel_rfl) ?_
    obtain rfl := Option.some.inj h4
    refine PJ.wk (Wk.freeze 0 (n := x0.length) (k := 1) (e := 5) (cs := x0.flatMap (encI .u8)) (by kernel_rfl)) ?_
    exact K.ret0 (.inr rfl) hFn hFH hFD (by kernel_rfl) (by kernel_rfl) (by kernel_rfl)
  · have h1 := agreeT (by rw [hb3 rfl]; rfl) h
    refine RJ.end (by kernel_rfl) ?_
    refine PJ.next ?_
    refine K.condT (by kernel_rfl) ?_
    refine K.seq (by kernel_rfl) ?_
    refine K.region (by kernel_rfl) ?_
    refine RJ.seg 1 [0, 2] (L2 := [(0, lsv (encI .u8) 1 x0), (2, .nl)]) (H2 := []) (by kernel_rfl) ?_
    refine RJ.end (by kernel_rfl) ?_
    refine PJ.next ?_
    refine K.ret (by kernel_rfl) ?_
    refine PJ.passRet ?_
    obtain rfl := Option.some.inj h1
    refine PJ.res (v1 := .nl) (Le.nl _) ?_
    exact K.ret0 (.inr rfl) hFn hFH hFD (by kernel_rfl) (by kernel_rfl) (by kernel_rfl)

def dec_Norm (x0 : Bool) (x1 : List Int) (x2 : Int) : Option (St23 × Int) :=
  (Option.bind (dec_figures x1) fun y1 => (bif (!y1) then (some ((⟨false, ([] : List Int), 0⟩ : St23), 1)) else (Option.bind (Option.bind (bif (decide (x2 < (-1099511627776))) then (some true) else (some (decide (x2 > 1099511627776)))) fun (s30 : Bool) => (bif s30 then (some (.inr ((⟨false, ([] : List Int), 0⟩ : St23), 11))) else (some (.inl ())))) (joinX fun (s22 : Unit) => (Option.bind (loopN (fun (s179 : Int) => (Option.bind (Option.bind (bif (decide (s179 < (x1.length : Int))) then (bif inR s179 x1.length then (some ((decide ((nth x1 s179) = 0)))) else none) else (some false)) fun (s296 : Bool) => (bif s296 then (some (.inl ())) else (some (.inr (.inr s179))))) (joinX fun (s287 : Unit) => (some (.inl (IntKind.wrap .i64 (s179 + 1))))))) big 0) fun (s174 : Int) => (Option.bind (loopN (fun (s448 : Int) => (Option.bind (Option.bind (bif (decide (s174 < s448)) then (bif inR (IntKind.wrap .i64 (s448 - 1)) x1.length then (some ((decide (((nth x1 (IntKind.wrap .i64 (s448 - 1)))) = 0)))) else none) else (some false)) fun (s565 : Bool) => (bif s565 then (some (.inl ())) else (some (.inr (.inr s448))))) (joinX fun (s556 : Unit) => (some (.inl (IntKind.wrap .i64 (s448 - 1))))))) big (x1.length : Int)) fun (s443 : Int) => (bif (decide (s174 = s443)) then (some ((⟨x0, ([] : List Int), 0⟩ : St23), 0)) else (bif inS s174 s443 x1.length then (Option.bind (slices_Clone (cut x1 s174 s443)) fun y584 => (Option.bind (dec_Right ((⟨x0, y584, (IntKind.wrap .i64 (((IntKind.wrap .i64 (x2 + (x1.length : Int)))) - s443))⟩ : St23))) fun y587 => (bif (!y587) then (some ((⟨false, ([] : List Int), 0⟩ : St23), 11)) else (some ((⟨x0, y584, (IntKind.wrap .i64 (((IntKind.wrap .i64 (x2 + (x1.length : Int)))) - s443))⟩ : St23), 0))))) else none))))))))
theorem dec_Norm_ok {x0 : Bool} {x1 : List Int} {x2 : Int} {r : St23 × Int} (h : dec_Norm x0 x1 x2 = some r) : SC Try.prog 28 [.bool x0, lsv (encI .u8) 1 x1, .int .i64 x2] [] (.tup [.agg [.bool r.1.Neg_, lsv (encI .u8) 1 r.1.D_, .int .i64 r.1.E_], .int .i64 r.2]) [] := by
  refine K.fn (fn := Try.f28) (by kernel_rfl) (by kernel_rfl) (by kernel_rfl) (by kernel_rfl) (by kernel_rfl) (fun F hFn hFH hFD => ?_)
  unfold dec_Norm at h
  refine K.seq (by kernel_rfl) ?_
  refine K.region (by kernel_rfl) ?_
  refine RJ.seg 2 [0, 1, 2, 6, 7] (L2 := [(0, .bool x0), (1, lsv (encI .u8) 1 x1), (2, .int .i64 x2), (6, .ptr 0 0), (7, .int .i64 0)]) (H2 := [.box [.bool false, .nl, .int .i64 0]]) (by kernel_rfl) ?_
  refine RJ.end (by kernel_rfl) ?_
  refine PJ.next ?_
  refine K.seq (by kernel_rfl) ?_
  refine K.seq (by kernel_rfl) ?_
  refine K.region (by kernel_rfl) ?_
  refine RJ.seg 1 [0, 1, 2, 6, 7, 11] (L2 := [(0, .bool x0), (1, lsv (encI .u8) 1 x1), (2, .int .i64 x2), (6, .ptr 0 0), (7, .int .i64 0), (11, lsv (encI .u8) 1 x1)]) (H2 := [.box [.bool false, .nl, .int .i64 0]]) (by kernel_rfl) ?_
  obtain ⟨y1, hy2, h3⟩ := bindS h
  refine RJ.call0 (d := (some 12)) (f := 37) (args := [lsv (encI .u8) 1 x1]) (v := .bool y1) (tr2 := []) (by kernel_rfl) (by kernel_rfl) (.cons (Le.refl _) .nil) (dec_figures_ok hy2) (by kernel_rfl) ?_
  refine RJ.seg 1 [0, 1, 2, 6, 7, 13] (L2 := [(0, .bool x0), (1, lsv (encI .u8) 1 x1), (2, .int .i64 x2), (6, .ptr 0 0), (7, .int .i64 0), (13, .bool (!y1))]) (H2 := [.box [.bool false, .nl, .int .i64 0]]) (by kernel_rfl) ?_
  refine RJ.end (by kernel_rfl) ?_
  refine PJ.next ?_
  refine J.caseB 13 (b := (!y1)) (by kernel_rfl) (fun hb4 => ?_) (fun hb4 => ?_)
  · have h5 := condT hb4 h3
    refine K.condT (by kernel_rfl) ?_
    refine K.seq (by kernel_rfl) ?_
    refine K.region (by kernel_rfl) ?_
    refine RJ.seg 3 [0, 1, 2, 6, 7] (L2 := [(0, .bool x0), (1, lsv (encI .u8) 1 x1), (2, .int .i64 x2), (6, .ptr 0 0), (7, .int .i64 1)]) (H2 := [.box [.bool false, .nl, .int .i64 0]]) (by kernel_rfl) ?_
    refine RJ.end (by kernel_rfl) ?_
    refine PJ.next ?_
    refine K.ret (by kernel_rfl) ?_
    refine PJ.passRet ?_
    obtain rfl := Option.some.inj h5
    refine PJ.res (v1 := .tup [.agg [.bool false, .nl, .int .i64 0], .int .i64 1]) (Le.tup (.cons (Le.agg (.cons (Le.refl _) (.cons (Le.nl _) (.cons (Le.refl _) .nil)))) (.cons (Le.refl _) .nil))) ?_
    exact K.ret0 (.inr rfl) hFn hFH hFD (by kernel_rfl) (by kernel_rfl) (by kernel_rfl)
  · have h6 := condF hb4 h3
    refine K.condF (by kernel_rfl) ?_
    refine K.skip (by kernel_rfl) ?_
    refine PJ.next ?_
    obtain ⟨y23, hy24, h25⟩ := bindS h6
    refine K.cutX (by kernel_rfl) (fun (s22 : Unit) => ([(0, .bool x0), (1, lsv (encI .u8) 1 x1), (2, .int .i64 x2), (6, .ptr 0 0), (7, .int .i64 0)], [.box [.bool false, .nl, .int .i64 0]])) y23 ?_ (fun s22 hs => ?_)
    · obtain ⟨s30, hy32, h34⟩ := bindS hy24
      refine K.cutN (by kernel_rfl) (fun (s30 : Bool) => ([(0, .bool x0), (1, lsv (encI .u8) 1 x1), (2, .int .i64 x2), (6, .ptr 0 0), (7, .int .i64 0), (20, .bool s30)], [.box [.bool false, .nl, .int .i64 0]])) s30 ?_ ?_
      · refine K.region (by kernel_rfl) ?_
        refine RJ.seg 3 [0, 1, 2, 6, 7, 17] (L2 := [(0, .bool x0), (1, lsv (encI .u8) 1 x1), (2, .int .i64 x2), (6, .ptr 0 0), (7, .int .i64 0), (17, .bool ((decide (x2 < (-1099511627776)))))]) (H2 := [.box [.bool false, .nl, .int .i64 0]]) (by kernel_rfl) ?_
        refine RJ.caseB 17 (b := (decide (x2 < (-1099511627776)))) (by kernel_rfl) (fun hb35 => ?_) (fun hb35 => ?_)
        · have h36 := condT hb35 hy32
          refine RJ.seg 3 [0, 1, 2, 6, 7, 20] (L2 := [(0, .bool x0), (1, lsv (encI .u8) 1 x1), (2, .int .i64 x2), (6, .ptr 0 0), (7, .int .i64 0), (20, .bool true)]) (H2 := [.box [.bool false, .nl, .int .i64 0]]) (by kernel_rfl) ?_
          refine RJ.end (by kernel_rfl) ?_
          obtain rfl := Option.some.inj h36
          exact PJ.cutN [0, 1, 2, 6, 7, 20] (by kernel_rfl) (by kernel_rfl)
        · have h37 := condF hb35 hy32
          refine RJ.seg 3 [0, 1, 2, 6, 7, 20] (L2 := [(0, .bool x0), (1, lsv (encI .u8) 1 x1), (2, .int .i64 x2), (6, .ptr 0 0), (7, .int .i64 0), (20, .bool (decide (x2 > 1099511627776)))]) (H2 := [.box [.bool false, .nl, .int .i64 0]]) (by kernel_rfl) ?_
          refine RJ.end (by kernel_rfl) ?_
          obtain rfl := Option.some.inj h37
          exact PJ.cutN [0, 1, 2, 6, 7, 20] (by kernel_rfl) (by kernel_rfl)
      · refine J.caseB 20 (b := s30) (by kernel_rfl) (fun hb38 => ?_) (fun hb38 => ?_)
        · have h39 := condT hb38 h34
          refine K.condT (by kernel_rfl) ?_
          refine K.seq (by kernel_rfl) ?_
          refine K.region (by kernel_rfl) ?_
          refine RJ.seg 3 [0, 1, 2, 6, 7] (L2 := [(0, .bool x0), (1, lsv (encI .u8) 1 x1), (2, .int .i64 x2), (6, .ptr 0 0), (7, .int .i64 11)]) (H2 := [.box [.bool false, .nl, .int .i64 0]]) (by kernel_rfl) ?_
          refine RJ.end (by kernel_rfl) ?_
          refine PJ.next ?_
          refine K.ret (by kernel_rfl) ?_
          obtain rfl := Option.some.inj h39
          have h41 := joinX_inr h25
          refine PJ.cutXr (fun e => nomatch e) ?_
          obtain rfl := Option.some.inj h41
          refine PJ.res (v1 := .tup [.agg [.bool false, .nl, .int .i64 0], .int .i64 11]) (Le.tup (.cons (Le.agg (.cons (Le.refl _) (.cons (Le.nl _) (.cons (Le.refl _) .nil)))) (.cons (Le.refl _) .nil))) ?_
          exact K.ret0 (.inr rfl) hFn hFH hFD (by kernel_rfl) (by kernel_rfl) (by kernel_rfl)
        · have h40 := condF hb38 h34
          refine K.condF (by kernel_rfl) ?_
          refine K.skip (by kernel_rfl) ?_
          obtain rfl := Option.some.inj h40
          exact PJ.cutXl [0, 1, 2, 6, 7] (by kernel_rfl) (by kernel_rfl)
    · subst hs
      have h26 := joinX_inl h25
      refine K.seq (by kernel_rfl) ?_
      refine K.region (by kernel_rfl) ?_
      refine RJ.seg 4 [0, 1, 2, 6, 7, 8, 9] (L2 := [(0, .bool x0), (1, lsv (encI .u8) 1 x1), (2, .int .i64 x2), (6, .ptr 0 0), (7, .int .i64 0), (8, .int .i64 0), (9, .int .i64 (x1.length : Int))]) (H2 := [.box [.bool false, .nl, .int .i64 0]]) (by kernel_rfl) ?_
      refine RJ.end (by kernel_rfl) ?_
      refine PJ.next ?_
      obtain ⟨s174, hy176, h178⟩ := bindS h26
      refine K.cutN (by kernel_rfl) (fun (s174 : Int) => ([(0, .bool x0), (1, lsv (encI .u8) 1 x1), (2, .int .i64 x2), (6, .ptr 0 0), (7, .int .i64 0), (8, .int .i64 s174), (9, .int .i64 (x1.length : Int))], [.box [.bool false, .nl, .int .i64 0]])) s174 ?_ ?_
      · refine K.block 0 (by kernel_rfl) ?_
        refine K.loop (by kernel_rfl) (fun (s179 : Int) => ([(0, .bool x0), (1, lsv (encI .u8) 1 x1), (2, .int .i64 x2), (6, .ptr 0 0), (7, .int .i64 0), (8, .int .i64 s179), (9, .int .i64 (x1.length : Int))], [.box [.bool false, .nl, .int .i64 0]])) hy176 [0, 1, 2, 6, 7, 8, 9] (by kernel_rfl) (by kernel_rfl) (fun s179 x267 hs266 => ?_)
        obtain ⟨y288, hy289, h290⟩ := bindS hs266
        refine K.cutX (by kernel_rfl) (fun (s287 : Unit) => ([(0, .bool x0), (1, lsv (encI .u8) 1 x1), (2, .int .i64 x2), (6, .ptr 0 0), (7, .int .i64 0), (8, .int .i64 s179), (9, .int .i64 (x1.length : Int))], [.box [.bool false, .nl, .int .i64 0]])) y288 ?_ (fun s287 hs => ?_)
        · obtain ⟨s296, hy298, h300⟩ := bindS hy289
          refine K.cutN (by kernel_rfl) (fun (s296 : Bool) => ([(0, .bool x0), (1, lsv (encI .u8) 1 x1), (2, .int .i64 x2), (6, .ptr 0 0), (7, .int .i64 0), (8, .int .i64 s179), (9, .int .i64 (x1.length : Int)), (33, .bool s296)], [.box [.bool false, .nl, .int .i64 0]])) s296 ?_ ?_
          · refine K.region (by kernel_rfl) ?_
            refine RJ.seg 4 [0, 1, 2, 6, 7, 8, 9, 27] (L2 := [(0, .bool x0), (1, lsv (encI .u8) 1 x1), (2, .int .i64 x2), (6, .ptr 0 0), (7, .int .i64 0), (8, .int .i64 s179), (9, .int .i64 (x1.length : Int)), (27, .bool ((decide (s179 < (x1.length : Int)))))]) (H2 := [.box [.bool false, .nl, .int .i64 0]]) (by kernel_rfl) ?_
            refine RJ.caseB 27 (b := (decide (s179 < (x1.length : Int)))) (by kernel_rfl) (fun hb301 => ?_) (fun hb301 => ?_)
            · have h302 := condT hb301 hy298
              refine RJ.seg 2 [0, 1, 2, 6, 7, 8, 9, 27, 28, 29] (L2 := [(0, .bool x0), (1, lsv (encI .u8) 1 x1), (2, .int .i64 x2), (6, .ptr 0 0), (7, .int .i64 0), (8, .int .i64 s179), (9, .int .i64 (x1.length : Int)), (27, .bool true), (28, lsv (encI .u8) 1 x1), (29, .int .i64 s179)]) (H2 := [.box [.bool false, .nl, .int .i64 0]]) (by kernel_rfl) ?_
              obtain ⟨hm, h304⟩ := asrt h302
              refine RJ.rel (d := (some 30)) (ef := ⟨.ep (((x1.flatMap (encI .u8)).drop ((s179 : Int).toNat * 1)).take 1), [], []⟩) (ef' := ⟨.ep ((encI .u8) (nth x1 s179)), [], []⟩) (c := inR s179 x1.length) (tr2 := []) (H2 := [.box [.bool false, .nl, .int .i64 0]]) (by kernel_rfl) hm (fun hc => N.idx (encI_len .u8) hc) (by kernel_rfl) ?_
              refine RJ.seg 3 [0, 1, 2, 6, 7, 8, 9, 33] (L2 := [(0, .bool x0), (1, lsv (encI .u8) 1 x1), (2, .int .i64 x2), (6, .ptr 0 0), (7, .int .i64 0), (8, .int .i64 s179), (9, .int .i64 (x1.length : Int)), (33, .bool ((decide ((nth x1 s179) = 0))))]) (H2 := [.box [.bool false, .nl, .int .i64 0]]) (by kernel_rfl) ?_
              refine RJ.end (by kernel_rfl) ?_
              obtain rfl := Option.some.inj h304
              exact PJ.cutN [0, 1, 2, 6, 7, 8, 9, 33] (by kernel_rfl) (by kernel_rfl)
            · have h303 := condF hb301 hy298
              refine RJ.seg 6 [0, 1, 2, 6, 7, 8, 9, 33] (L2 := [(0, .bool x0), (1, lsv (encI .u8) 1 x1), (2, .int .i64 x2), (6, .ptr 0 0), (7, .int .i64 0), (8, .int .i64 s179), (9, .int .i64 (x1.length : Int)), (33, .bool false)]) (H2 := [.box [.bool false, .nl, .int .i64 0]]) (by kernel_rfl) ?_
              refine RJ.end (by kernel_rfl) ?_
              obtain rfl := Option.some.inj h303
              exact PJ.cutN [0, 1, 2, 6, 7, 8, 9, 33] (by kernel_rfl) (by kernel_rfl)
          · refine J.caseB 33 (b := s296) (by kernel_rfl) (fun hb305 => ?_) (fun hb305 => ?_)
            · have h306 := condT hb305 h300
              refine K.condT (by kernel_rfl) ?_
              refine K.skip (by kernel_rfl) ?_
              obtain rfl := Option.some.inj h306
              exact PJ.cutXl [0, 1, 2, 6, 7, 8, 9] (by kernel_rfl) (by kernel_rfl)
            · have h307 := condF hb305 h300
              refine K.condF (by kernel_rfl) ?_
              refine K.exit 0 (by kernel_rfl) ?_
              obtain rfl := Option.some.inj h307
              have h308 := joinX_inr h290
              refine PJ.cutXr (fun e => nomatch e) ?_
              obtain rfl := Option.some.inj h308
              refine PJ.loopOut (fun e => nomatch e) (fun he310 => ?_)
              have h309 := congrArg some he310
              refine PJ.blockOut ?_
              obtain rfl := Option.some.inj h309
              exact PJ.cutN [0, 1, 2, 6, 7, 8, 9] (by kernel_rfl) (by kernel_rfl)
        · subst hs
          have h291 := joinX_inl h290
          refine K.block 1 (by kernel_rfl) ?_
          refine K.region (by kernel_rfl) ?_
          refine RJ.seg 3 [0, 1, 2, 6, 7, 8, 9] (L2 := [(0, .bool x0), (1, lsv (encI .u8) 1 x1), (2, .int .i64 x2), (6, .ptr 0 0), (7, .int .i64 0), (8, .int .i64 (IntKind.wrap .i64 (s179 + 1))), (9, .int .i64 (x1.length : Int))]) (H2 := [.box [.bool false, .nl, .int .i64 0]]) (by kernel_rfl) ?_
          refine RJ.end (by kernel_rfl) ?_
          refine PJ.blockNormal ?_
          obtain rfl := Option.some.inj h291
          exact PJ.loopNext [0, 1, 2, 6, 7, 8, 9] (by kernel_rfl) (by kernel_rfl)
      · obtain ⟨s443, hy445, h447⟩ := bindS h178
        refine K.cutN (by kernel_rfl) (fun (s443 : Int) => ([(0, .bool x0), (1, lsv (encI .u8) 1 x1), (2, .int .i64 x2), (6, .ptr 0 0), (7, .int .i64 0), (8, .int .i64 s174), (9, .int .i64 s443)], [.box [.bool false, .nl, .int .i64 0]])) s443 ?_ ?_
        · refine K.block 2 (by kernel_rfl) ?_
          refine K.loop (by kernel_rfl) (fun (s448 : Int) => ([(0, .bool x0), (1, lsv (encI .u8) 1 x1), (2, .int .i64 x2), (6, .ptr 0 0), (7, .int .i64 0), (8, .int .i64 s174), (9, .int .i64 s448)], [.box [.bool false, .nl, .int .i64 0]])) hy445 [0, 1, 2, 6, 7, 8, 9] (by kernel_rfl) (by kernel_rfl) (fun s448 x536 hs535 => ?_)
          obtain ⟨y557, hy558, h559⟩ := bindS hs535
          refine K.cutX (by kernel_rfl) (fun (s556 : Unit) => ([(0, .bool x0), (1, lsv (encI .u8) 1 x1), (2, .int .i64 x2), (6, .ptr 0 0), (7, .int .i64 0), (8, .int .i64 s174), (9, .int .i64 s448)], [.box [.bool false, .nl, .int .i64 0]])) y557 ?_ (fun s556 hs => ?_)
          · obtain ⟨s565, hy567, h569⟩ := bindS hy558
            refine K.cutN (by kernel_rfl) (fun (s565 : Bool) => ([(0, .bool x0), (1, lsv (encI .u8) 1 x1), (2, .int .i64 x2), (6, .ptr 0 0), (7, .int .i64 0), (8, .int .i64 s174), (9, .int .i64 s448), (46, .bool s565)], [.box [.bool false, .nl, .int .i64 0]])) s565 ?_ ?_
            · refine K.region (by kernel_rfl) ?_
              refine RJ.seg 4 [0, 1, 2, 6, 7, 8, 9, 39] (L2 := [(0, .bool x0), (1, lsv (encI .u8) 1 x1), (2, .int .i64 x2), (6, .ptr 0 0), (7, .int .i64 0), (8, .int .i64 s174), (9, .int .i64 s448), (39, .bool (decide (s174 < s448)))]) (H2 := [.box [.bool false, .nl, .int .i64 0]]) (by kernel_rfl) ?_
              refine RJ.caseB 39 (b := (decide (s174 < s448))) (by kernel_rfl) (fun hb570 => ?_) (fun hb570 => ?_)
              · have h571 := condT hb570 hy567
                refine RJ.seg 3 [0, 1, 2, 6, 7, 8, 9, 39, 40, 42] (L2 := [(0, .bool x0), (1, lsv (encI .u8) 1 x1), (2, .int .i64 x2), (6, .ptr 0 0), (7, .int .i64 0), (8, .int .i64 s174), (9, .int .i64 s448), (39, .bool true), (40, lsv (encI .u8) 1 x1), (42, .int .i64 (IntKind.wrap .i64 (s448 - 1)))]) (H2 := [.box [.bool false, .nl, .int .i64 0]]) (by kernel_rfl) ?_
                obtain ⟨hm, h573⟩ := asrt h571
                refine RJ.rel (d := (some 43)) (ef := ⟨.ep (((x1.flatMap (encI .u8)).drop (((IntKind.wrap .i64 (s448 - 1)) : Int).toNat * 1)).take 1), [], []⟩) (ef' := ⟨.ep ((encI .u8) (nth x1 (IntKind.wrap .i64 (s448 - 1)))), [], []⟩) (c := inR (IntKind.wrap .i64 (s448 - 1)) x1.length) (tr2 := []) (H2 := [.box [.bool false, .nl, .int .i64 0]]) (by kernel_rfl) hm (fun hc => N.idx (encI_len .u8) hc) (by kernel_rfl) ?_
                refine RJ.seg 3 [0, 1, 2, 6, 7, 8, 9, 46] (L2 := [(0, .bool x0), (1, lsv (encI .u8) 1 x1), (2, .int .i64 x2), (6, .ptr 0 0), (7, .int .i64 0), (8, .int .i64 s174), (9, .int .i64 s448), (46, .bool ((decide (((nth x1 (IntKind.wrap .i64 (s448 - 1)))) = 0))))]) (H2 := [.box [.bool false, .nl, .int .i64 0]]) (by kernel_rfl) ?_
                refine RJ.end (by kernel_rfl) ?_
                obtain rfl := Option.some.inj h573
                exact PJ.cutN [0, 1, 2, 6, 7, 8, 9, 46] (by kernel_rfl) (by kernel_rfl)
              · have h572 := condF hb570 hy567
                refine RJ.seg 7 [0, 1, 2, 6, 7, 8, 9, 46] (L2 := [(0, .bool x0), (1, lsv (encI .u8) 1 x1), (2, .int .i64 x2), (6, .ptr 0 0), (7, .int .i64 0), (8, .int .i64 s174), (9, .int .i64 s448), (46, .bool false)]) (H2 := [.box [.bool false, .nl, .int .i64 0]]) (by kernel_rfl) ?_
                refine RJ.end (by kernel_rfl) ?_
                obtain rfl := Option.some.inj h572
                exact PJ.cutN [0, 1, 2, 6, 7, 8, 9, 46] (by kernel_rfl) (by kernel_rfl)
            · refine J.caseB 46 (b := s565) (by kernel_rfl) (fun hb574 => ?_) (fun hb574 => ?_)
              · have h575 := condT hb574 h569
                refine K.condT (by kernel_rfl) ?_
                refine K.skip (by kernel_rfl) ?_
                obtain rfl := Option.some.inj h575
                exact PJ.cutXl [0, 1, 2, 6, 7, 8, 9] (by kernel_rfl) (by kernel_rfl)
              · have h576 := condF hb574 h569
                refine K.condF (by kernel_rfl) ?_
                refine K.exit 2 (by kernel_rfl) ?_
                obtain rfl := Option.some.inj h576
                have h577 := joinX_inr h559
                refine PJ.cutXr (fun e => nomatch e) ?_
                obtain rfl := Option.some.inj h577
                refine PJ.loopOut (fun e => nomatch e) (fun he579 => ?_)
                have h578 := congrArg some he579
                refine PJ.blockOut ?_
                obtain rfl := Option.some.inj h578
                exact PJ.cutN [0, 1, 2, 6, 7, 8, 9] (by kernel_rfl) (by kernel_rfl)
          · subst hs
            have h560 := joinX_inl h559
            refine K.block 3 (by kernel_rfl) ?_
            refine K.region (by kernel_rfl) ?_
            refine RJ.seg 3 [0, 1, 2, 6, 7, 8, 9] (L2 := [(0, .bool x0), (1, lsv (encI .u8) 1 x1), (2, .int .i64 x2), (6, .ptr 0 0), (7, .int .i64 0), (8, .int .i64 s174), (9, .int .i64 (IntKind.wrap .i64 (s448 - 1)))]) (H2 := [.box [.bool false, .nl, .int .i64 0]]) (by kernel_rfl) ?_
            refine RJ.end (by kernel_rfl) ?_
            refine PJ.blockNormal ?_
            obtain rfl := Option.some.inj h560
            exact PJ.loopNext [0, 1, 2, 6, 7, 8, 9] (by kernel_rfl) (by kernel_rfl)
        · refine K.seq (by kernel_rfl) ?_
          refine K.seq (by kernel_rfl) ?_
          refine K.region (by kernel_rfl) ?_
          refine RJ.seg 3 [0, 1, 2, 6, 7, 8, 9, 51] (L2 := [(0, .bool x0), (1, lsv (encI .u8) 1 x1), (2, .int .i64 x2), (6, .ptr 0 0), (7, .int .i64 0), (8, .int .i64 s174), (9, .int .i64 s443), (51, .bool (decide (s174 = s443)))]) (H2 := [.box [.bool false, .nl, .int .i64 0]]) (by kernel_rfl) ?_
          refine RJ.end (by kernel_rfl) ?_
          refine PJ.next ?_
          refine J.caseB 51 (b := (decide (s174 = s443))) (by kernel_rfl) (fun hb580 => ?_) (fun hb580 => ?_)
          · have h581 := condT hb580 h447
            refine K.condT (by kernel_rfl) ?_
            refine K.seq (by kernel_rfl) ?_
            refine K.region (by kernel_rfl) ?_
            refine RJ.seg 4 [0, 1, 2, 6, 7, 8, 9] (L2 := [(0, .bool x0), (1, lsv (encI .u8) 1 x1), (2, .int .i64 x2), (6, .ptr 0 0), (7, .int .i64 0), (8, .int .i64 s174), (9, .int .i64 s443)]) (H2 := [.box [.bool x0, .nl, .int .i64 0]]) (by kernel_rfl) ?_
            refine RJ.end (by kernel_rfl) ?_
            refine PJ.next ?_
            refine K.ret (by kernel_rfl) ?_
            refine PJ.passRet ?_
            obtain rfl := Option.some.inj h581
            refine PJ.res (v1 := .tup [.agg [.bool x0, .nl, .int .i64 0], .int .i64 0]) (Le.tup (.cons (Le.agg (.cons (Le.refl _) (.cons (Le.nl _) (.cons (Le.refl _) .nil)))) (.cons (Le.refl _) .nil))) ?_
            exact K.ret0 (.inr rfl) hFn hFH hFD (by kernel_rfl) (by kernel_rfl) (by kernel_rfl)
          · have h582 := condF hb580 h447
            refine K.condF (by kernel_rfl) ?_
            refine K.skip (by kernel_rfl) ?_
            refine PJ.next ?_
            refine K.seq (by kernel_rfl) ?_
            refine K.region (by kernel_rfl) ?_
            refine RJ.seg 4 [1, 2, 6, 7, 9, 54, 55, 56, 57] (L2 := [(1, lsv (encI .u8) 1 x1), (2, .int .i64 x2), (6, .ptr 0 0), (7, .int .i64 0), (9, .int .i64 s443), (54, .bool x0), (55, lsv (encI .u8) 1 x1), (56, .int .i64 s174), (57, .int .i64 s443)]) (H2 := [.box [.bool false, .nl, .int .i64 0]]) (by kernel_rfl) ?_
            obtain ⟨hm, h583⟩ := asrt h582
            refine RJ.rel (d := (some 58)) (ef := ⟨.lst ((s443 : Int).toNat - (s174 : Int).toNat) 1 (((x1.flatMap (encI .u8)).take ((s443 : Int).toNat * 1)).drop ((s174 : Int).toNat * 1)), [], []⟩) (ef' := ⟨.lst (cut x1 s174 s443).length 1 ((cut x1 s174 s443).flatMap (encI .u8)), [], []⟩) (c := inS s174 s443 x1.length) (tr2 := []) (H2 := [.box [.bool false, .nl, .int .i64 0]]) (by kernel_rfl) hm (fun hc => N.slice (encI_len .u8) hc) (by kernel_rfl) ?_
            obtain ⟨y584, hy585, h586⟩ := bindS h583
            refine RJ.call0 (d := (some 59)) (f := 39) (args := [lsv (encI .u8) 1 (cut x1 s174 s443)]) (v := lsv (encI .u8) 1 y584) (tr2 := []) (by kernel_rfl) (by kernel_rfl) (.cons (Le.refl _) .nil) (slices_Clone_ok hy585) (by kernel_rfl) ?_
            refine RJ.seg 9 [6, 7, 10] (L2 := [(6, .ptr 0 0), (7, .int .i64 0), (10, .ptr 1 0)]) (H2 := [.box [.bool false, .nl, .int .i64 0], .box [.bool x0, lsv (encI .u8) 1 y584, .int .i64 ((IntKind.wrap .i64 (((IntKind.wrap .i64 (x2 + (x1.length : Int)))) - s443)))]]) (by kernel_rfl) ?_
            refine RJ.end (by kernel_rfl) ?_
            refine PJ.next ?_
            refine K.seq (by kernel_rfl) ?_
            refine K.seq (by kernel_rfl) ?_
            refine K.region (by kernel_rfl) ?_
            refine RJ.seg 1 [6, 7, 10, 67] (L2 := [(6, .ptr 0 0), (7, .int .i64 0), (10, .ptr 1 0), (67, .agg [.bool x0, lsv (encI .u8) 1 y584, .int .i64 ((IntKind.wrap .i64 (((IntKind.wrap .i64 (x2 + (x1.length : Int)))) - s443)))])]) (H2 := [.box [.bool false, .nl, .int .i64 0], .box [.bool x0, lsv (encI .u8) 1 y584, .int .i64 ((IntKind.wrap .i64 (((IntKind.wrap .i64 (x2 + (x1.length : Int)))) - s443)))]]) (by kernel_rfl) ?_
            obtain ⟨y587, hy588, h589⟩ := bindS h586
            refine RJ.call0 (d := (some 68)) (f := 25) (args := [.agg [.bool x0, lsv (encI .u8) 1 y584, .int .i64 ((IntKind.wrap .i64 (((IntKind.wrap .i64 (x2 + (x1.length : Int)))) - s443)))]]) (v := .bool y587) (tr2 := []) (by kernel_rfl) (by kernel_rfl) (.cons (Le.refl _) .nil) (dec_Right_ok hy588) (by kernel_rfl) ?_
            refine RJ.seg 1 [6, 7, 10, 69] (L2 := [(6, .ptr 0 0), (7, .int .i64 0), (10, .ptr 1 0), (69, .bool (!y587))]) (H2 := [.box [.bool false, .nl, .int .i64 0], .box [.bool x0, lsv (encI .u8) 1 y584, .int .i64 ((IntKind.wrap .i64 (((IntKind.wrap .i64 (x2 + (x1.length : Int)))) - s443)))]]) (by kernel_rfl) ?_
            refine RJ.end (by kernel_rfl) ?_
            refine PJ.next ?_
            refine J.caseB 69 (b := (!y587)) (by kernel_rfl) (fun hb590 => ?_) (fun hb590 => ?_)
            · have h591 := condT hb590 h589
              refine K.condT (by kernel_rfl) ?_
              refine K.seq (by kernel_rfl) ?_
              refine K.region (by kernel_rfl) ?_
              refine RJ.seg 3 [6, 7, 10] (L2 := [(6, .ptr 0 0), (7, .int .i64 11), (10, .ptr 1 0)]) (H2 := [.box [.bool false, .nl, .int .i64 0], .box [.bool x0, lsv (encI .u8) 1 y584, .int .i64 ((IntKind.wrap .i64 (((IntKind.wrap .i64 (x2 + (x1.length : Int)))) - s443)))]]) (by kernel_rfl) ?_
              refine RJ.end (by kernel_rfl) ?_
              refine PJ.next ?_
              refine K.ret (by kernel_rfl) ?_
              refine PJ.passRet ?_
              obtain rfl := Option.some.inj h591
              refine PJ.res (v1 := .tup [.agg [.bool false, .nl, .int .i64 0], .int .i64 11]) (Le.tup (.cons (Le.agg (.cons (Le.refl _) (.cons (Le.nl _) (.cons (Le.refl _) .nil)))) (.cons (Le.refl _) .nil))) ?_
              exact K.ret0 (.inr rfl) hFn hFH hFD (by kernel_rfl) (by kernel_rfl) (by kernel_rfl)
            · have h592 := condF hb590 h589
              refine K.condF (by kernel_rfl) ?_
              refine K.skip (by kernel_rfl) ?_
              refine PJ.next ?_
              refine K.seq (by kernel_rfl) ?_
              refine K.region (by kernel_rfl) ?_
              refine RJ.seg 3 [6, 7] (L2 := [(6, .ptr 0 0), (7, .int .i64 0)]) (H2 := [.box [.bool x0, lsv (encI .u8) 1 y584, .int .i64 ((IntKind.wrap .i64 (((IntKind.wrap .i64 (x2 + (x1.length : Int)))) - s443)))], .box [.bool x0, lsv (encI .u8) 1 y584, .int .i64 ((IntKind.wrap .i64 (((IntKind.wrap .i64 (x2 + (x1.length : Int)))) - s443)))]]) (by kernel_rfl) ?_
              refine RJ.end (by kernel_rfl) ?_
              refine PJ.next ?_
              refine K.ret (by kernel_rfl) ?_
              obtain rfl := Option.some.inj h592
              exact K.ret0 (.inr rfl) hFn hFH hFD (by kernel_rfl) (by kernel_rfl) (by kernel_rfl)

def round_middle (x0 : St23) (x1 : Int) (x2 : Int) (x3 : Int) : Option (Int) :=
  (Option.bind (dec_At x0 (IntKind.wrap .i64 (x3 - 1))) fun y1 => (Option.bind (bif (decide (y1 ≥ 5)) then (some ((IntKind.wrap .i64 ((IntKind.wrap .i64 (2 * x1)) + 1)))) else (some (IntKind.wrap .i64 (2 * x1)))) fun (s7 : Int) => (Option.bind (bif (decide (s7 < x2)) then (some (.inr (-1))) else (Option.bind (bif (decide (s7 > x2)) then (some true) else (bif (decide (¬ (Int.tmod y1 5) = 0)) then (some true) else (Option.bind (round_below x0 (IntKind.wrap .i64 (x3 - 1))) fun y75 => (some y75)))) fun (s64 : Bool) => (bif s64 then (some (.inr 1)) else (some (.inl ()))))) (joinX fun (s46 : Unit) => (some 0)))))
theorem round_middle_ok {x0 : St23} {x1 : Int} {x2 : Int} {x3 : Int} {r : Int} (h : round_middle x0 x1 x2 x3 = some r) : SC Try.prog 29 [.agg [.bool x0.Neg_, lsv (encI .u8) 1 x0.D_, .int .i64 x0.E_], .int .i64 x1, .int .i64 x2, .int .i64 x3] [] (.int .i64 r) [] := by
  refine K.fn (fn := Try.f29) (by kernel_rfl) (by kernel_rfl) (by kernel_rfl) (by kernel_rfl) (by kernel_rfl) (fun F hFn hFH hFD => ?_)
  unfold round_middle at h
  refine K.seq (by kernel_rfl) ?_
  refine K.region (by kernel_rfl) ?_
  refine RJ.seg 2 [1, 2, 3, 4, 8] (L2 := [(1, .int .i64 x1), (2, .int .i64 x2), (3, .int .i64 x3), (4, .ptr 0 0), (8, .int .i64 0)]) (H2 := [.box [.bool x0.Neg_, lsv (encI .u8) 1 x0.D_, .int .i64 x0.E_]]) (by kernel_rfl) ?_
  refine RJ.end (by kernel_rfl) ?_
  refine PJ.next ?_
  refine K.seq (by kernel_rfl) ?_
  refine K.region (by kernel_rfl) ?_
  refine RJ.seg 3 [1, 2, 3, 4, 8, 11, 13] (L2 := [(1, .int .i64 x1), (2, .int .i64 x2), (3, .int .i64 x3), (4, .ptr 0 0), (8, .int .i64 0), (11, .agg [.bool x0.Neg_, lsv (encI .u8) 1 x0.D_, .int .i64 x0.E_]), (13, .int .i64 (IntKind.wrap .i64 (x3 - 1)))]) (H2 := [.box [.bool x0.Neg_, lsv (encI .u8) 1 x0.D_, .int .i64 x0.E_]]) (by kernel_rfl) ?_
  obtain ⟨y1, hy2, h3⟩ := bindS h
  refine RJ.call0 (d := (some 14)) (f := 38) (args := [.agg [.bool x0.Neg_, lsv (encI .u8) 1 x0.D_, .int .i64 x0.E_], .int .i64 (IntKind.wrap .i64 (x3 - 1))]) (v := .int .u8 y1) (tr2 := []) (by kernel_rfl) (by kernel_rfl) (.cons (Le.refl _) (.cons (Le.refl _) .nil)) (dec_At_ok hy2) (by kernel_rfl) ?_
  refine RJ.seg 1 [1, 2, 3, 4, 8, 9] (L2 := [(1, .int .i64 x1), (2, .int .i64 x2), (3, .int .i64 x3), (4, .ptr 0 0), (8, .int .i64 0), (9, .int .u8 y1)]) (H2 := [.box [.bool x0.Neg_, lsv (encI .u8) 1 x0.D_, .int .i64 x0.E_]]) (by kernel_rfl) ?_
  refine RJ.end (by kernel_rfl) ?_
  refine PJ.next ?_
  refine K.seq (by kernel_rfl) ?_
  refine K.region (by kernel_rfl) ?_
  refine RJ.seg 3 [2, 3, 4, 8, 9, 10] (L2 := [(2, .int .i64 x2), (3, .int .i64 x3), (4, .ptr 0 0), (8, .int .i64 0), (9, .int .u8 y1), (10, .int .i64 (IntKind.wrap .i64 (2 * x1)))]) (H2 := [.box [.bool x0.Neg_, lsv (encI .u8) 1 x0.D_, .int .i64 x0.E_]]) (by kernel_rfl) ?_
  refine RJ.end (by kernel_rfl) ?_
  refine PJ.next ?_
  obtain ⟨s7, hy9, h11⟩ := bindS h3
  refine K.cutN (by kernel_rfl) (fun (s7 : Int) => ([(2, .int .i64 x2), (3, .int .i64 x3), (4, .ptr 0 0), (8, .int .i64 0), (9, .int .u8 y1), (10, .int .i64 s7)], [.box [.bool x0.Neg_, lsv (encI .u8) 1 x0.D_, .int .i64 x0.E_]])) s7 ?_ ?_
  · refine K.seq (by kernel_rfl) ?_
    refine K.region (by kernel_rfl) ?_
    refine RJ.seg 2 [2, 3, 4, 8, 9, 10, 18] (L2 := [(2, .int .i64 x2), (3, .int .i64 x3), (4, .ptr 0 0), (8, .int .i64 0), (9, .int .u8 y1), (10, .int .i64 (IntKind.wrap .i64 (2 * x1))), (18, .bool (decide (y1 ≥ 5)))]) (H2 := [.box [.bool x0.Neg_, lsv (encI .u8) 1 x0.D_, .int .i64 x0.E_]]) (by kernel_rfl) ?_
    refine RJ.end (by kernel_rfl) ?_
    refine PJ.next ?_
    refine J.caseB 18 (b := (decide (y1 ≥ 5))) (by kernel_rfl) (fun hb12 => ?_) (fun hb12 => ?_)
    · have h13 := condT hb12 hy9
      refine K.condT (by kernel_rfl) ?_
      refine K.region (by kernel_rfl) ?_
      refine RJ.seg 3 [2, 3, 4, 8, 9, 10] (L2 := [(2, .int .i64 x2), (3, .int .i64 x3), (4, .ptr 0 0), (8, .int .i64 0), (9, .int .u8 y1), (10, .int .i64 ((IntKind.wrap .i64 ((IntKind.wrap .i64 (2 * x1)) + 1))))]) (H2 := [.box [.bool x0.Neg_, lsv (encI .u8) 1 x0.D_, .int .i64 x0.E_]]) (by kernel_rfl) ?_
      refine RJ.end (by kernel_rfl) ?_
      obtain rfl := Option.some.inj h13
      exact PJ.cutN [2, 3, 4, 8, 9, 10] (by kernel_rfl) (by kernel_rfl)
    · have h14 := condF hb12 hy9
      refine K.condF (by kernel_rfl) ?_
      refine K.skip (by kernel_rfl) ?_
      obtain rfl := Option.some.inj h14
      exact PJ.cutN [2, 3, 4, 8, 9, 10] (by kernel_rfl) (by kernel_rfl)
  · obtain ⟨y47, hy48, h49⟩ := bindS h11
    refine K.cutX (by kernel_rfl) (fun (s46 : Unit) => ([(8, .int .i64 0)], [])) y47 ?_ (fun s46 hs => ?_)
    · refine K.block 0 (by kernel_rfl) ?_
      refine K.seq (by kernel_rfl) ?_
      refine K.region (by kernel_rfl) ?_
      refine RJ.seg 4 [2, 3, 4, 8, 9, 10, 21] (L2 := [(2, .int .i64 x2), (3, .int .i64 x3), (4, .ptr 0 0), (8, .int .i64 0), (9, .int .u8 y1), (10, .int .i64 s7), (21, .bool (decide (s7 < x2)))]) (H2 := [.box [.bool x0.Neg_, lsv (encI .u8) 1 x0.D_, .int .i64 x0.E_]]) (by kernel_rfl) ?_
      refine RJ.end (by kernel_rfl) ?_
      refine PJ.next ?_
      refine J.caseB 21 (b := (decide (s7 < x2))) (by kernel_rfl) (fun hb51 => ?_) (fun hb51 => ?_)
      · have h52 := condT hb51 hy48
        refine K.condT (by kernel_rfl) ?_
        refine K.seq (by kernel_rfl) ?_
        refine K.region (by kernel_rfl) ?_
        refine RJ.seg 1 [8] (L2 := [(8, .int .i64 (-1))]) (H2 := [.box [.bool x0.Neg_, lsv (encI .u8) 1 x0.D_, .int .i64 x0.E_]]) (by kernel_rfl) ?_
        refine RJ.end (by kernel_rfl) ?_
        refine PJ.next ?_
        refine K.ret (by kernel_rfl) ?_
        refine PJ.blockRet ?_
        obtain rfl := Option.some.inj h52
        have h54 := joinX_inr h49
        refine PJ.cutXr (fun e => nomatch e) ?_
        obtain rfl := Option.some.inj h54
        exact K.ret0 (.inr rfl) hFn hFH hFD (by kernel_rfl) (by kernel_rfl) (by kernel_rfl)
      · have h53 := condF hb51 hy48
        refine K.condF (by kernel_rfl) ?_
        obtain ⟨s64, hy66, h68⟩ := bindS h53
        refine K.cutN (by kernel_rfl) (fun (s64 : Bool) => ([(8, .int .i64 0), (25, .bool s64)], [])) s64 ?_ ?_
        · refine K.region (by kernel_rfl) ?_
          refine RJ.seg 4 [3, 4, 8, 9, 29] (L2 := [(3, .int .i64 x3), (4, .ptr 0 0), (8, .int .i64 0), (9, .int .u8 y1), (29, .bool (decide (s7 > x2)))]) (H2 := [.box [.bool x0.Neg_, lsv (encI .u8) 1 x0.D_, .int .i64 x0.E_]]) (by kernel_rfl) ?_
          refine RJ.caseB 29 (b := (decide (s7 > x2))) (by kernel_rfl) (fun hb69 => ?_) (fun hb69 => ?_)
          · have h70 := condT hb69 hy66
            refine RJ.seg 11 [8, 25] (L2 := [(8, .int .i64 0), (25, .bool true)]) (H2 := [.box [.bool x0.Neg_, lsv (encI .u8) 1 x0.D_, .int .i64 x0.E_]]) (by kernel_rfl) ?_
            refine RJ.end (by kernel_rfl) ?_
            obtain rfl := Option.some.inj h70
            refine PJ.wk (Wk.sel (L2 := [(8, .int .i64 0), (25, .bool true)]) (H2 := []) 0 (by rw [hFH]; rfl) hFD [] (by kernel_rfl) (by kernel_rfl) (by decide) (by kernel_rfl) (by kernel_rfl) (by kernel_rfl) (by kernel_rfl)) ?_
            exact PJ.cutN [8, 25] (by kernel_rfl) (by kernel_rfl)
          · have h71 := condF hb69 hy66
            refine RJ.seg 5 [3, 4, 8, 34] (L2 := [(3, .int .i64 x3), (4, .ptr 0 0), (8, .int .i64 0), (34, .bool ((decide (¬ (Int.tmod y1 5) = 0))))]) (H2 := [.box [.bool x0.Neg_, lsv (encI .u8) 1 x0.D_, .int .i64 x0.E_]]) (by kernel_rfl) ?_
            refine RJ.caseB 34 (b := (decide (¬ (Int.tmod y1 5) = 0))) (by kernel_rfl) (fun hb72 => ?_) (fun hb72 => ?_)
            · have h73 := condT hb72 h71
              refine RJ.seg 6 [8, 25] (L2 := [(8, .int .i64 0), (25, .bool true)]) (H2 := [.box [.bool x0.Neg_, lsv (encI .u8) 1 x0.D_, .int .i64 x0.E_]]) (by kernel_rfl) ?_
              refine RJ.end (by kernel_rfl) ?_
              obtain rfl := Option.some.inj h73
              refine PJ.wk (Wk.sel (L2 := [(8, .int .i64 0), (25, .bool true)]) (H2 := []) 0 (by rw [hFH]; rfl) hFD [] (by kernel_rfl) (by kernel_rfl) (by decide) (by kernel_rfl) (by kernel_rfl) (by kernel_rfl) (by kernel_rfl)) ?_
              exact PJ.cutN [8, 25] (by kernel_rfl) (by kernel_rfl)
            · have h74 := condF hb72 h71
              refine RJ.seg 3 [8, 34, 35, 37] (L2 := [(8, .int .i64 0), (34, .bool false), (35, .agg [.bool x0.Neg_, lsv (encI .u8) 1 x0.D_, .int .i64 x0.E_]), (37, .int .i64 (IntKind.wrap .i64 (x3 - 1)))]) (H2 := [.box [.bool x0.Neg_, lsv (encI .u8) 1 x0.D_, .int .i64 x0.E_]]) (by kernel_rfl) ?_
              obtain ⟨y75, hy76, h77⟩ := bindS h74
              refine RJ.call0 (d := (some 38)) (f := 27) (args := [.agg [.bool x0.Neg_, lsv (encI .u8) 1 x0.D_, .int .i64 x0.E_], .int .i64 (IntKind.wrap .i64 (x3 - 1))]) (v := .bool y75) (tr2 := []) (by kernel_rfl) (by kernel_rfl) (.cons (Le.refl _) (.cons (Le.refl _) .nil)) (round_below_ok hy76) (by kernel_rfl) ?_
              refine RJ.seg 2 [8, 25] (L2 := [(8, .int .i64 0), (25, .bool y75)]) (H2 := [.box [.bool x0.Neg_, lsv (encI .u8) 1 x0.D_, .int .i64 x0.E_]]) (by kernel_rfl) ?_
              refine RJ.end (by kernel_rfl) ?_
              obtain rfl := Option.some.inj h77
              refine PJ.wk (Wk.sel (L2 := [(8, .int .i64 0), (25, .bool y75)]) (H2 := []) 0 (by rw [hFH]; rfl) hFD [] (by kernel_rfl) (by kernel_rfl) (by decide) (by kernel_rfl) (by kernel_rfl) (by kernel_rfl) (by kernel_rfl)) ?_
              exact PJ.cutN [8, 25] (by kernel_rfl) (by kernel_rfl)
        · refine J.caseB 25 (b := s64) (by kernel_rfl) (fun hb78 => ?_) (fun hb78 => ?_)
          · have h79 := condT hb78 h68
            refine K.condT (by kernel_rfl) ?_
            refine K.seq (by kernel_rfl) ?_
            refine K.region (by kernel_rfl) ?_
            refine RJ.seg 1 [8] (L2 := [(8, .int .i64 1)]) (H2 := []) (by kernel_rfl) ?_
            refine RJ.end (by kernel_rfl) ?_
            refine PJ.next ?_
            refine K.ret (by kernel_rfl) ?_
            refine PJ.blockRet ?_
            obtain rfl := Option.some.inj h79
            have h81 := joinX_inr h49
            refine PJ.cutXr (fun e => nomatch e) ?_
            obtain rfl := Option.some.inj h81
            exact K.ret0 (.inr rfl) hFn hFH hFD (by kernel_rfl) (by kernel_rfl) (by kernel_rfl)
          · have h80 := condF hb78 h68
            refine K.condF (by kernel_rfl) ?_
            refine K.skip (by kernel_rfl) ?_
            refine PJ.blockNormal ?_
            obtain rfl := Option.some.inj h80
            exact PJ.cutXl [8] (by kernel_rfl) (by kernel_rfl)
    · subst hs
      have h50 := joinX_inl h49
      refine K.seq (by kernel_rfl) ?_
      refine K.region (by kernel_rfl) ?_
      refine RJ.seg 1 [8] (L2 := [(8, .int .i64 0)]) (H2 := []) (by kernel_rfl) ?_
      refine RJ.end (by kernel_rfl) ?_
      refine PJ.next ?_
      refine K.ret (by kernel_rfl) ?_
      obtain rfl := Option.some.inj h50
      exact K.ret0 (.inr rfl) hFn hFH hFD (by kernel_rfl) (by kernel_rfl) (by kernel_rfl)

structure St57 where
  neg_ : Bool
  odd_ : Bool
  half_ : Int
  deriving Inhabited, DecidableEq
def encSt57 (x : St57) : List SV := [.bool x.neg_, .bool x.odd_, .int .i64 x.half_]
theorem encSt57_len (x : St57) : (encSt57 x).length = 3 := rfl

def round_ways_s0 (x0 : St57) : Option (Unit) :=
  (some ())
theorem round_ways_s0_ok {x0 : St57} {r : Unit} (h : round_ways_s0 x0 = some r) : SC Try.prog 30 [.agg [.bool x0.neg_, .bool x0.odd_, .int .i64 x0.half_]] [] (.mp 0) [.map [(.int .i64 0, .fn (.func 41) [] []), (.int .i64 1, .fn (.func 42) [] []), (.int .i64 2, .fn (.func 43) [] [.ptr 1 0]), (.int .i64 3, .fn (.func 44) [] [.ptr 1 0]), (.int .i64 4, .fn (.func 45) [] [.ptr 2 0]), (.int .i64 5, .fn (.func 46) [] [.ptr 2 0]), (.int .i64 6, .fn (.func 47) [] [.ptr 2 0, .ptr 1 0]), (.int .i64 7, .fn (.func 48) [] [.ptr 2 0, .ptr 1 0])], .box [.bool x0.neg_, .bool x0.odd_, .int .i64 x0.half_], .box [.fn (.func 40) [] [.ptr 1 0]]] := by
  refine K.fn (fn := Try.f30) (by kernel_rfl) (by kernel_rfl) (by kernel_rfl) (by kernel_rfl) (by kernel_rfl) (fun F hFn hFH hFD => ?_)
  unfold round_ways_s0 at h
  refine K.seq (by kernel_rfl) ?_
  refine K.region (by kernel_rfl) ?_
  refine RJ.seg 2 [1] (L2 := [(1, .ptr 0 0)]) (H2 := [.box [.bool x0.neg_, .bool x0.odd_, .int .i64 x0.half_]]) (by kernel_rfl) ?_
  refine RJ.end (by kernel_rfl) ?_
  refine PJ.next ?_
  refine K.seq (by kernel_rfl) ?_
  refine K.region (by kernel_rfl) ?_
  refine RJ.seg 3 [1, 3] (L2 := [(1, .ptr 0 0), (3, .ptr 1 0)]) (H2 := [.box [.bool x0.neg_, .bool x0.odd_, .int .i64 x0.half_], .box [.fn (.func 40) [] [.ptr 0 0]]]) (by kernel_rfl) ?_
  refine RJ.end (by kernel_rfl) ?_
  refine PJ.next ?_
  refine K.seq (by kernel_rfl) ?_
  refine K.region (by kernel_rfl) ?_
  refine RJ.seg 17 [2] (L2 := [(2, .mp 2)]) (H2 := [.box [.bool x0.neg_, .bool x0.odd_, .int .i64 x0.half_], .box [.fn (.func 40) [] [.ptr 0 0]], .map [(.int .i64 0, .fn (.func 41) [] []), (.int .i64 1, .fn (.func 42) [] []), (.int .i64 2, .fn (.func 43) [] [.ptr 0 0]), (.int .i64 3, .fn (.func 44) [] [.ptr 0 0]), (.int .i64 4, .fn (.func 45) [] [.ptr 1 0]), (.int .i64 5, .fn (.func 46) [] [.ptr 1 0]), (.int .i64 6, .fn (.func 47) [] [.ptr 1 0, .ptr 0 0]), (.int .i64 7, .fn (.func 48) [] [.ptr 1 0, .ptr 0 0])]]) (by kernel_rfl) ?_
  refine RJ.end (by kernel_rfl) ?_
  refine PJ.next ?_
  refine K.ret (by kernel_rfl) ?_
  obtain rfl := Option.some.inj h
  exact K.retV (H0 := []) [2, 0, 1] (.inr rfl) hFn hFH hFD (by kernel_rfl) (v1 := .mp 2) (by kernel_rfl) (by kernel_rfl) (by kernel_rfl) (by decide) (by kernel_rfl) (by kernel_rfl) (by kernel_rfl) (by kernel_rfl) (by kernel_rfl)

def round_ways_2  : Option (Bool) :=
  (some true)
theorem round_ways_2_ok  {r : Bool} (h : round_ways_2 = some r) : SC Try.prog 41 [] [] (.bool r) [] := by
  refine K.fn (fn := Try.f41) (by kernel_rfl) (by kernel_rfl) (by kernel_rfl) (by kernel_rfl) (by kernel_rfl) (fun F hFn hFH hFD => ?_)
  unfold round_ways_2 at h
  refine K.seq (by kernel_rfl) ?_
  refine K.region (by kernel_rfl) ?_
  refine RJ.seg 1 [0] (L2 := [(0, .bool false)]) (H2 := []) (by kernel_rfl) ?_
  refine RJ.end (by kernel_rfl) ?_
  refine PJ.next ?_
  refine K.seq (by kernel_rfl) ?_
  refine K.region (by kernel_rfl) ?_
  refine RJ.seg 1 [0] (L2 := [(0, .bool true)]) (H2 := []) (by kernel_rfl) ?_
  refine RJ.end (by kernel_rfl) ?_
  refine PJ.next ?_
  refine K.ret (by kernel_rfl) ?_
  obtain rfl := Option.some.inj h
  exact K.ret0 (.inr rfl) hFn hFH hFD (by kernel_rfl) (by kernel_rfl) (by kernel_rfl)

def round_next (x0 : List Int) : Option (List Int) :=
  (Option.bind (loopN (fun (s66 : Int × (List Int)) => (bif (decide (s66.1 ≥ 0)) then (bif inR s66.1 s66.2.length then (bif inR s66.1 s66.2.length then (bif (decide ((nth s66.2 s66.1) < 9)) then (bif inR s66.1 s66.2.length then (bif inR s66.1 s66.2.length then (bif inR s66.1 s66.2.length then (bif inR s66.1 s66.2.length then (some (.inr (.inr (setAt s66.2 s66.1 ((IntKind.wrap .u8 ((nth s66.2 s66.1) + 1))))))) else none) else none) else none) else none) else (bif inR s66.1 s66.2.length then (bif inR s66.1 s66.2.length then (some (.inl ((IntKind.wrap .i64 (s66.1 - 1)), (setAt s66.2 s66.1 0)))) else none) else none)) else none) else none) else (some (.inr (.inl s66.2))))) big ((IntKind.wrap .i64 ((x0.length : Int) - 1)), x0)) (joinX fun (s61 : (List Int)) => (bif room (([1] : List Int).length + s61.length) then (some (([1] : List Int) ++ s61)) else none)))
theorem round_next_ok_0 {x0 : List Int} {r : List Int} (h : round_next x0 = some r) : SC Try.prog 31 [.vc 0] [vecL (encI .u8) 1 5 x0] (lsv (encI .u8) 1 r) [.gone] := by
  refine K.fn (fn := Try.f31) (by kernel_rfl) (by kernel_rfl) (by kernel_rfl) (by kernel_rfl) (by kernel_rfl) (fun F hFn hFH hFD => ?_)
  unfold round_next at h
  refine K.seq (by kernel_rfl) ?_
  refine K.region (by kernel_rfl) ?_
  refine RJ.seg 1 [0, 2] (L2 := [(0, .vc 0), (2, .nl)]) (H2 := [vecL (encI .u8) 1 5 x0]) (by kernel_rfl) ?_
  refine RJ.end (by kernel_rfl) ?_
  refine PJ.next ?_
  obtain ⟨y62, hy63, h64⟩ := bindS h
  refine K.cutX (by kernel_rfl) (fun (s61 : (List Int)) => ([(0, .vc 0), (2, .nl)], [vecL (encI .u8) 1 5 s61])) y62 ?_ (fun s61 hs => ?_)
  · refine K.seq (by kernel_rfl) ?_
    refine K.region (by kernel_rfl) ?_
    refine RJ.seg 4 [0, 2, 3] (L2 := [(0, .vc 0), (2, .nl), (3, .int .i64 ((IntKind.wrap .i64 ((x0.length : Int) - 1))))]) (H2 := [vecL (encI .u8) 1 5 x0]) (by kernel_rfl) ?_
    refine RJ.end (by kernel_rfl) ?_
    refine PJ.next ?_
    refine K.block 0 (by kernel_rfl) ?_
    refine K.loop (by kernel_rfl) (fun (s66 : Int × (List Int)) => ([(0, .vc 0), (2, .nl), (3, .int .i64 s66.1)], [vecL (encI .u8) 1 5 s66.2])) hy63 [0, 2, 3] (by kernel_rfl) (by kernel_rfl) (fun s66 x106 hs105 => ?_)
    refine K.seq (by kernel_rfl) ?_
    refine K.seq (by kernel_rfl) ?_
    refine K.region (by kernel_rfl) ?_
    refine RJ.seg 2 [0, 2, 3, 8] (L2 := [(0, .vc 0), (2, .nl), (3, .int .i64 s66.1), (8, .bool (decide (s66.1 ≥ 0)))]) (H2 := [vecL (encI .u8) 1 5 s66.2]) (by kernel_rfl) ?_
    refine RJ.end (by kernel_rfl) ?_
    refine PJ.next ?_
    refine J.caseB 8 (b := (decide (s66.1 ≥ 0))) (by kernel_rfl) (fun hb107 => ?_) (fun hb107 => ?_)
    · have h108 := condT hb107 hs105
      refine K.condT (by kernel_rfl) ?_
      refine K.skip (by kernel_rfl) ?_
      refine PJ.next ?_
      refine K.seq (by kernel_rfl) ?_
      refine K.block 1 (by kernel_rfl) ?_
      refine K.seq (by kernel_rfl) ?_
      refine K.seq (by kernel_rfl) ?_
      refine K.region (by kernel_rfl) ?_
      refine RJ.seg 2 [0, 2, 3, 11, 12] (L2 := [(0, .vc 0), (2, .nl), (3, .int .i64 s66.1), (11, .vc 0), (12, .int .i64 s66.1)]) (H2 := [vecL (encI .u8) 1 5 s66.2]) (by kernel_rfl) ?_
      obtain ⟨hm, h110⟩ := asrt h108
      refine RJ.rel (d := (some 13)) (ef := ⟨.ptr 0 ((s66.1 : Int).toNat * 1), [0], []⟩) (ef' := ⟨.ptr 0 ((s66.1 : Int).toNat * 1), [0], []⟩) (c := inR s66.1 s66.2.length) (tr2 := []) (H2 := [vecL (encI .u8) 1 5 s66.2]) (by kernel_rfl) hm (fun hc => rfl) (by kernel_rfl) ?_
      obtain ⟨hm, h111⟩ := asrt h110
      refine RJ.rel (d := (some 14)) (ef := ⟨(((s66.2).flatMap (encI .u8)).drop ((s66.1 : Int).toNat * 1)).headD .undef, [0], []⟩) (ef' := ⟨.int .u8 (nth s66.2 s66.1), [0], []⟩) (c := Nat.blt ((s66.1 : Int).toNat * 1) (s66.2.flatMap (encI .u8)).length) (tr2 := []) (H2 := [vecL (encI .u8) 1 5 s66.2]) (by kernel_rfl) (loadv_ok (encI_len .u8) rfl hm) (fun hc => N.load1 (encI_len .u8) (fun _ => rfl) hm) (by kernel_rfl) ?_
      refine RJ.seg 1 [0, 2, 3, 15] (L2 := [(0, .vc 0), (2, .nl), (3, .int .i64 s66.1), (15, .bool ((decide ((nth s66.2 s66.1) < 9))))]) (H2 := [vecL (encI .u8) 1 5 s66.2]) (by kernel_rfl) ?_
      refine RJ.end (by kernel_rfl) ?_
      refine PJ.next ?_
      refine J.caseB 15 (b := (decide ((nth s66.2 s66.1) < 9))) (by kernel_rfl) (fun hb112 => ?_) (fun hb112 => ?_)
      · have h113 := condT hb112 h111
        refine K.condT (by kernel_rfl) ?_
        refine K.seq (by kernel_rfl) ?_
        refine K.region (by kernel_rfl) ?_
        refine RJ.seg 2 [0, 2, 3, 16, 17] (L2 := [(0, .vc 0), (2, .nl), (3, .int .i64 s66.1), (16, .vc 0), (17, .int .i64 s66.1)]) (H2 := [vecL (encI .u8) 1 5 s66.2]) (by kernel_rfl) ?_
        obtain ⟨hm, h115⟩ := asrt h113
        refine RJ.rel (d := (some 18)) (ef := ⟨.ptr 0 ((s66.1 : Int).toNat * 1), [0], []⟩) (ef' := ⟨.ptr 0 ((s66.1 : Int).toNat * 1), [0], []⟩) (c := inR s66.1 s66.2.length) (tr2 := []) (H2 := [vecL (encI .u8) 1 5 s66.2]) (by kernel_rfl) hm (fun hc => rfl) (by kernel_rfl) ?_
        obtain ⟨hm, h116⟩ := asrt h115
        refine RJ.rel (d := (some 19)) (ef := ⟨(((s66.2).flatMap (encI .u8)).drop ((s66.1 : Int).toNat * 1)).headD .undef, [0], []⟩) (ef' := ⟨.int .u8 (nth s66.2 s66.1), [0], []⟩) (c := Nat.blt ((s66.1 : Int).toNat * 1) (s66.2.flatMap (encI .u8)).length) (tr2 := []) (H2 := [vecL (encI .u8) 1 5 s66.2]) (by kernel_rfl) (loadv_ok (encI_len .u8) rfl hm) (fun hc => N.load1 (encI_len .u8) (fun _ => rfl) hm) (by kernel_rfl) ?_
        refine RJ.seg 1 [0, 2, 3, 16, 17, 20] (L2 := [(0, .vc 0), (2, .nl), (3, .int .i64 s66.1), (16, .vc 0), (17, .int .i64 s66.1), (20, .int .u8 ((IntKind.wrap .u8 ((nth s66.2 s66.1) + 1))))]) (H2 := [vecL (encI .u8) 1 5 s66.2]) (by kernel_rfl) ?_
        obtain ⟨hm, h117⟩ := asrt h116
        refine RJ.rel (d := (some 21)) (ef := ⟨.ptr 0 ((s66.1 : Int).toNat * 1), [0], []⟩) (ef' := ⟨.ptr 0 ((s66.1 : Int).toNat * 1), [0], []⟩) (c := inR s66.1 s66.2.length) (tr2 := []) (H2 := [vecL (encI .u8) 1 5 s66.2]) (by kernel_rfl) hm (fun hc => rfl) (by kernel_rfl) ?_
        obtain ⟨hm, h118⟩ := asrt h117
        refine RJ.rel (d := none) (ef := ⟨.undef, [0], [(0, .vec (s66.2).length 1 5 (splice ((s66.2).flatMap (encI .u8)) ((s66.1 : Int).toNat * 1) ((encI .u8) ((IntKind.wrap .u8 ((nth s66.2 s66.1) + 1))))))]⟩) (ef' := ⟨.undef, [0], [(0, vecL (encI .u8) 1 5 (setAt s66.2 s66.1 ((IntKind.wrap .u8 ((nth s66.2 s66.1) + 1)))))]⟩) (c := Nat.ble (((s66.1 : Int).toNat * 1) + ((encI .u8) ((IntKind.wrap .u8 ((nth s66.2 s66.1) + 1)))).length) (s66.2.flatMap (encI .u8)).length) (tr2 := []) (H2 := [vecL (encI .u8) 1 5 ((setAt s66.2 s66.1 ((IntKind.wrap .u8 ((nth s66.2 s66.1) + 1)))))]) (by kernel_rfl) (storev_ok (encI_len .u8) hm) (fun hc => N.store (encI_len .u8) hm) (by kernel_rfl) ?_
        refine RJ.end (by kernel_rfl) ?_
        refine PJ.next ?_
        refine K.seq (by kernel_rfl) ?_
        refine K.region (by kernel_rfl) ?_
        refine RJ.seg 2 [0, 2, 3] (L2 := [(0, .vc 0), (2, .vc 0), (3, .int .i64 s66.1)]) (H2 := [vecL (encI .u8) 1 5 ((setAt s66.2 s66.1 ((IntKind.wrap .u8 ((nth s66.2 s66.1) + 1)))))]) (by kernel_rfl) ?_
        refine RJ.end (by kernel_rfl) ?_
        refine PJ.next ?_
        refine K.ret (by kernel_rfl) ?_
        refine PJ.passRet ?_
        refine PJ.blockRet ?_
        refine PJ.passRet ?_
        obtain rfl := Option.some.inj h118
        refine PJ.loopOut (fun e => nomatch e) (fun he121 => ?_)
        have h119 := congrArg some he121
        refine PJ.blockRet ?_
        obtain rfl := Option.some.inj h119
        have h120 := joinX_inr h64
        refine PJ.cutXr (fun e => nomatch e) ?_
        obtain rfl := Option.some.inj h120
        refine PJ.wk (Wk.freeze 0 (n := ((setAt s66.2 s66.1 ((IntKind.wrap .u8 ((nth s66.2 s66.1) + 1))))).length) (k := 1) (e := 5) (cs := ((setAt s66.2 s66.1 ((IntKind.wrap .u8 ((nth s66.2 s66.1) + 1))))).flatMap (encI .u8)) (by kernel_rfl)) ?_
        exact K.retV (H0 := [vecL (encI .u8) 1 5 x0]) [0] (.inr rfl) hFn hFH hFD (by kernel_rfl) (v1 := lsv (encI .u8) 1 ((setAt s66.2 s66.1 ((IntKind.wrap .u8 ((nth s66.2 s66.1) + 1)))))) (by kernel_rfl) (by kernel_rfl) (by kernel_rfl) (by decide) (by kernel_rfl) (by kernel_rfl) (by kernel_rfl) (by kernel_rfl) (by kernel_rfl)
      · have h114 := condF hb112 h111
        refine K.condF (by kernel_rfl) ?_
        refine K.skip (by kernel_rfl) ?_
        refine PJ.next ?_
        refine K.region (by kernel_rfl) ?_
        refine RJ.seg 2 [0, 2, 3, 23, 24] (L2 := [(0, .vc 0), (2, .nl), (3, .int .i64 s66.1), (23, .vc 0), (24, .int .i64 s66.1)]) (H2 := [vecL (encI .u8) 1 5 s66.2]) (by kernel_rfl) ?_
        obtain ⟨hm, h122⟩ := asrt h114
        refine RJ.rel (d := (some 25)) (ef := ⟨.ptr 0 ((s66.1 : Int).toNat * 1), [0], []⟩) (ef' := ⟨.ptr 0 ((s66.1 : Int).toNat * 1), [0], []⟩) (c := inR s66.1 s66.2.length) (tr2 := []) (H2 := [vecL (encI .u8) 1 5 s66.2]) (by kernel_rfl) hm (fun hc => rfl) (by kernel_rfl) ?_
        obtain ⟨hm, h123⟩ := asrt h122
        refine RJ.rel (d := none) (ef := ⟨.undef, [0], [(0, .vec (s66.2).length 1 5 (splice ((s66.2).flatMap (encI .u8)) ((s66.1 : Int).toNat * 1) ((encI .u8) 0)))]⟩) (ef' := ⟨.undef, [0], [(0, vecL (encI .u8) 1 5 (setAt s66.2 s66.1 0))]⟩) (c := Nat.ble (((s66.1 : Int).toNat * 1) + ((encI .u8) 0).length) (s66.2.flatMap (encI .u8)).length) (tr2 := []) (H2 := [vecL (encI .u8) 1 5 (setAt s66.2 s66.1 0)]) (by kernel_rfl) (storev_ok (encI_len .u8) hm) (fun hc => N.store (encI_len .u8) hm) (by kernel_rfl) ?_
        refine RJ.end (by kernel_rfl) ?_
        refine PJ.blockNormal ?_
        refine PJ.next ?_
        refine K.region (by kernel_rfl) ?_
        refine RJ.seg 3 [0, 2, 3] (L2 := [(0, .vc 0), (2, .nl), (3, .int .i64 (IntKind.wrap .i64 (s66.1 - 1)))]) (H2 := [vecL (encI .u8) 1 5 (setAt s66.2 s66.1 0)]) (by kernel_rfl) ?_
        refine RJ.end (by kernel_rfl) ?_
        obtain rfl := Option.some.inj h123
        exact PJ.loopNext [0, 2, 3] (by kernel_rfl) (by kernel_rfl)
    · have h109 := condF hb107 hs105
      refine K.condF (by kernel_rfl) ?_
      refine K.exit 0 (by kernel_rfl) ?_
      refine PJ.passExit ?_
      obtain rfl := Option.some.inj h109
      refine PJ.loopOut (fun e => nomatch e) (fun he125 => ?_)
      have h124 := congrArg some he125
      refine PJ.blockOut ?_
      obtain rfl := Option.some.inj h124
      exact PJ.cutXl [0, 2] (by kernel_rfl) (by kernel_rfl)
  · subst hs
    have h65 := joinX_inl h64
    refine K.seq (by kernel_rfl) ?_
    refine K.region (by kernel_rfl) ?_
    refine RJ.seg 2 [2, 26, 27] (L2 := [(2, .nl), (26, .vc 1), (27, .vc 0)]) (H2 := [vecL (encI .u8) 1 5 s61, vecL (encI .u8) 1 5 ([1] : List Int)]) (by kernel_rfl) ?_
    obtain ⟨hm, h126⟩ := asrt h65
    refine RJ.rel (d := (some 28)) (ef := ⟨.vc 2, [1, 0], [(1, .gone), (2, .vec (([1] : List Int).length + s61.length) 1 5 (([1] : List Int).flatMap (encI .u8) ++ s61.flatMap (encI .u8)))]⟩) (ef' := ⟨.vc 2, [1, 0], [(1, .gone), (2, vecL (encI .u8) 1 5 (([1] : List Int) ++ s61))]⟩) (c := room (([1] : List Int).length + s61.length)) (tr2 := []) (H2 := [vecL (encI .u8) 1 5 s61, .gone, vecL (encI .u8) 1 5 (([1] : List Int) ++ s61)]) (by kernel_rfl) hm (fun hc => N.app) (by kernel_rfl) ?_
    refine RJ.seg 1 [2] (L2 := [(2, .vc 2)]) (H2 := [vecL (encI .u8) 1 5 s61, .gone, vecL (encI .u8) 1 5 (([1] : List Int) ++ s61)]) (by kernel_rfl) ?_
    refine RJ.end (by kernel_rfl) ?_
    refine PJ.next ?_
    refine K.ret (by kernel_rfl) ?_
    obtain rfl := Option.some.inj h126
    refine PJ.wk (Wk.freeze 2 (n := (([1] : List Int) ++ s61).length) (k := 1) (e := 5) (cs := (([1] : List Int) ++ s61).flatMap (encI .u8)) (by kernel_rfl)) ?_
    refine PJ.wk (Wk.freeze 0 (n := s61.length) (k := 1) (e := 5) (cs := s61.flatMap (encI .u8)) (by kernel_rfl)) ?_
    exact K.retV (H0 := [vecL (encI .u8) 1 5 x0]) [0] (.inr rfl) hFn hFH hFD (by kernel_rfl) (v1 := lsv (encI .u8) 1 (([1] : List Int) ++ s61)) (by kernel_rfl) (by kernel_rfl) (by kernel_rfl) (by decide) (by kernel_rfl) (by kernel_rfl) (by kernel_rfl) (by kernel_rfl) (by kernel_rfl)

def round_ways_3  : Option (Bool) :=
  (some false)
theorem round_ways_3_ok  {r : Bool} (h : round_ways_3 = some r) : SC Try.prog 42 [] [] (.bool r) [] := by
  refine K.fn (fn := Try.f42) (by kernel_rfl) (by kernel_rfl) (by kernel_rfl) (by kernel_rfl) (by kernel_rfl) (fun F hFn hFH hFD => ?_)
  unfold round_ways_3 at h
  refine K.seq (by kernel_rfl) ?_
  refine K.region (by kernel_rfl) ?_
  refine RJ.seg 1 [0] (L2 := [(0, .bool false)]) (H2 := []) (by kernel_rfl) ?_
  refine RJ.end (by kernel_rfl) ?_
  refine PJ.next ?_
  refine K.seq (by kernel_rfl) ?_
  refine K.region (by kernel_rfl) ?_
  refine RJ.seg 1 [0] (L2 := [(0, .bool false)]) (H2 := []) (by kernel_rfl) ?_
  refine RJ.end (by kernel_rfl) ?_
  refine PJ.next ?_
  refine K.ret (by kernel_rfl) ?_
  obtain rfl := Option.some.inj h
  exact K.ret0 (.inr rfl) hFn hFH hFD (by kernel_rfl) (by kernel_rfl) (by kernel_rfl)

def round_ways_4_s0 (x0 : Bool) (x1 : Bool) (x2 : Int) : Option (Bool) :=
  (some (!x0))
theorem round_ways_4_s0_ok {x0 : Bool} {x1 : Bool} {x2 : Int} {r : Bool} (h : round_ways_4_s0 x0 x1 x2 = some r) : SC Try.prog 43 [.ptr 0 0] [.box [.bool x0, .bool x1, .int .i64 x2]] (.bool r) [.box [.bool x0, .bool x1, .int .i64 x2]] := by
  refine K.fn (fn := Try.f43) (by kernel_rfl) (by kernel_rfl) (by kernel_rfl) (by kernel_rfl) (by kernel_rfl) (fun F hFn hFH hFD => ?_)
  unfold round_ways_4_s0 at h
  refine K.seq (by kernel_rfl) ?_
  refine K.region (by kernel_rfl) ?_
  refine RJ.seg 1 [0, 1] (L2 := [(0, .ptr 0 0), (1, .bool false)]) (H2 := [.box [.bool x0, .bool x1, .int .i64 x2]]) (by kernel_rfl) ?_
  refine RJ.end (by kernel_rfl) ?_
  refine PJ.next ?_
  refine K.seq (by kernel_rfl) ?_
  refine K.region (by kernel_rfl) ?_
  refine RJ.seg 4 [1] (L2 := [(1, .bool (!x0))]) (H2 := [.box [.bool x0, .bool x1, .int .i64 x2]]) (by kernel_rfl) ?_
  refine RJ.end (by kernel_rfl) ?_
  refine PJ.next ?_
  refine K.ret (by kernel_rfl) ?_
  obtain rfl := Option.some.inj h
  exact K.retV (H0 := [.box [.bool x0, .bool x1, .int .i64 x2]]) [0] (.inr rfl) hFn hFH hFD (by kernel_rfl) (v1 := .bool (!x0)) (by kernel_rfl) (by kernel_rfl) (by kernel_rfl) (by decide) (by kernel_rfl) (by kernel_rfl) (by kernel_rfl) (by kernel_rfl) (by kernel_rfl)

def round_ways_5_s0 (x0 : Bool) (x1 : Bool) (x2 : Int) : Option (Bool) :=
  (some x0)
theorem round_ways_5_s0_ok {x0 : Bool} {x1 : Bool} {x2 : Int} {r : Bool} (h : round_ways_5_s0 x0 x1 x2 = some r) : SC Try.prog 44 [.ptr 0 0] [.box [.bool x0, .bool x1, .int .i64 x2]] (.bool r) [.box [.bool x0, .bool x1, .int .i64 x2]] := by
  refine K.fn (fn := Try.f44) (by kernel_rfl) (by kernel_rfl) (by kernel_rfl) (by kernel_rfl) (by kernel_rfl) (fun F hFn hFH hFD => ?_)
  unfold round_ways_5_s0 at h
  refine K.seq (by kernel_rfl) ?_
  refine K.region (by kernel_rfl) ?_
  refine RJ.seg 1 [0, 1] (L2 := [(0, .ptr 0 0), (1, .bool false)]) (H2 := [.box [.bool x0, .bool x1, .int .i64 x2]]) (by kernel_rfl) ?_
  refine RJ.end (by kernel_rfl) ?_
  refine PJ.next ?_
  refine K.seq (by kernel_rfl) ?_
  refine K.region (by kernel_rfl) ?_
  refine RJ.seg 3 [1] (L2 := [(1, .bool x0)]) (H2 := [.box [.bool x0, .bool x1, .int .i64 x2]]) (by kernel_rfl) ?_
  refine RJ.end (by kernel_rfl) ?_
  refine PJ.next ?_
  refine K.ret (by kernel_rfl) ?_
  obtain rfl := Option.some.inj h
  exact K.retV (H0 := [.box [.bool x0, .bool x1, .int .i64 x2]]) [0] (.inr rfl) hFn hFH hFD (by kernel_rfl) (v1 := .bool x0) (by kernel_rfl) (by kernel_rfl) (by kernel_rfl) (by decide) (by kernel_rfl) (by kernel_rfl) (by kernel_rfl) (by kernel_rfl) (by kernel_rfl)

def round_ways_1_s0 (x0 : Bool) (x1 : Bool) (x2 : Bool) (x3 : Int) : Option (Bool) :=
  (Option.bind (bif (decide (x3 > 0)) then (some true) else (bif (decide (x3 = 0)) then (some x0) else (some false))) fun (s7 : Bool) => (some s7))
theorem round_ways_1_s0_ok {x0 : Bool} {x1 : Bool} {x2 : Bool} {x3 : Int} {r : Bool} (h : round_ways_1_s0 x0 x1 x2 x3 = some r) : SC Try.prog 40 [.bool x0, .ptr 0 0] [.box [.bool x1, .bool x2, .int .i64 x3]] (.bool r) [.box [.bool x1, .bool x2, .int .i64 x3]] := by
  refine K.fn (fn := Try.f40) (by kernel_rfl) (by kernel_rfl) (by kernel_rfl) (by kernel_rfl) (by kernel_rfl) (fun F hFn hFH hFD => ?_)
  unfold round_ways_1_s0 at h
  refine K.seq (by kernel_rfl) ?_
  refine K.region (by kernel_rfl) ?_
  refine RJ.seg 1 [0, 1, 3] (L2 := [(0, .bool x0), (1, .ptr 0 0), (3, .bool false)]) (H2 := [.box [.bool x1, .bool x2, .int .i64 x3]]) (by kernel_rfl) ?_
  refine RJ.end (by kernel_rfl) ?_
  refine PJ.next ?_
  obtain ⟨s7, hy9, h11⟩ := bindS h
  refine K.cutN (by kernel_rfl) (fun (s7 : Bool) => ([(3, .bool s7)], [.box [.bool x1, .bool x2, .int .i64 x3]])) s7 ?_ ?_
  · refine K.region (by kernel_rfl) ?_
    refine RJ.seg 4 [0, 1, 3, 7] (L2 := [(0, .bool x0), (1, .ptr 0 0), (3, .bool false), (7, .bool (decide (x3 > 0)))]) (H2 := [.box [.bool x1, .bool x2, .int .i64 x3]]) (by kernel_rfl) ?_
    refine RJ.caseB 7 (b := (decide (x3 > 0))) (by kernel_rfl) (fun hb12 => ?_) (fun hb12 => ?_)
    · have h13 := condT hb12 hy9
      refine RJ.seg 8 [3] (L2 := [(3, .bool true)]) (H2 := [.box [.bool x1, .bool x2, .int .i64 x3]]) (by kernel_rfl) ?_
      refine RJ.end (by kernel_rfl) ?_
      obtain rfl := Option.some.inj h13
      exact PJ.cutN [3] (by kernel_rfl) (by kernel_rfl)
    · have h14 := condF hb12 hy9
      refine RJ.seg 4 [0, 3, 7, 11] (L2 := [(0, .bool x0), (3, .bool false), (7, .bool false), (11, .bool (decide (x3 = 0)))]) (H2 := [.box [.bool x1, .bool x2, .int .i64 x3]]) (by kernel_rfl) ?_
      refine RJ.caseB 11 (b := (decide (x3 = 0))) (by kernel_rfl) (fun hb15 => ?_) (fun hb15 => ?_)
      · have h16 := condT hb15 h14
        refine RJ.seg 4 [3] (L2 := [(3, .bool x0)]) (H2 := [.box [.bool x1, .bool x2, .int .i64 x3]]) (by kernel_rfl) ?_
        refine RJ.end (by kernel_rfl) ?_
        obtain rfl := Option.some.inj h16
        exact PJ.cutN [3] (by kernel_rfl) (by kernel_rfl)
      · have h17 := condF hb15 h14
        refine RJ.seg 4 [3] (L2 := [(3, .bool false)]) (H2 := [.box [.bool x1, .bool x2, .int .i64 x3]]) (by kernel_rfl) ?_
        refine RJ.end (by kernel_rfl) ?_
        obtain rfl := Option.some.inj h17
        exact PJ.cutN [3] (by kernel_rfl) (by kernel_rfl)
  · refine K.ret (by kernel_rfl) ?_
    obtain rfl := Option.some.inj h11
    exact K.retV (H0 := [.box [.bool x1, .bool x2, .int .i64 x3]]) [0] (.inr rfl) hFn hFH hFD (by kernel_rfl) (v1 := .bool s7) (by kernel_rfl) (by kernel_rfl) (by kernel_rfl) (by decide) (by kernel_rfl) (by kernel_rfl) (by kernel_rfl) (by kernel_rfl) (by kernel_rfl)

def round_ways_6_s0 (x0 : Bool) (x1 : Bool) (x2 : Int) : Option (Bool) :=
  (Option.bind (round_ways_1_s0 true x0 x1 x2) fun y1 => (some y1))
theorem round_ways_6_s0_ok {x0 : Bool} {x1 : Bool} {x2 : Int} {r : Bool} (h : round_ways_6_s0 x0 x1 x2 = some r) : SC Try.prog 45 [.ptr 0 0] [.box [.fn (.func 40) [] [.ptr 1 0]], .box [.bool x0, .bool x1, .int .i64 x2]] (.bool r) [.box [.fn (.func 40) [] [.ptr 1 0]], .box [.bool x0, .bool x1, .int .i64 x2]] := by
  refine K.fn (fn := Try.f45) (by kernel_rfl) (by kernel_rfl) (by kernel_rfl) (by kernel_rfl) (by kernel_rfl) (fun F hFn hFH hFD => ?_)
  unfold round_ways_6_s0 at h
  refine K.seq (by kernel_rfl) ?_
  refine K.region (by kernel_rfl) ?_
  refine RJ.seg 1 [0, 1] (L2 := [(0, .ptr 0 0), (1, .bool false)]) (H2 := [.box [.fn (.func 40) [] [.ptr 1 0]], .box [.bool x0, .bool x1, .int .i64 x2]]) (by kernel_rfl) ?_
  refine RJ.end (by kernel_rfl) ?_
  refine PJ.next ?_
  refine K.seq (by kernel_rfl) ?_
  refine K.region (by kernel_rfl) ?_
  refine RJ.seg 1 [1, 2] (L2 := [(1, .bool false), (2, .fn (.func 40) [] [.ptr 1 0])]) (H2 := [.box [.fn (.func 40) [] [.ptr 1 0]], .box [.bool x0, .bool x1, .int .i64 x2]]) (by kernel_rfl) ?_
  obtain ⟨y1, hy2, h3⟩ := bindS h
  refine RJ.callG (d := (some 3)) (f := 40) (args := [.bool true, .ptr 1 0]) (args0 := [.bool true, .ptr 0 0]) (v0 := .bool y1) (v := .bool y1) (tr2 := []) (H0 := [.box [.bool x0, .bool x1, .int .i64 x2]]) (H0' := [.box [.bool x0, .bool x1, .int .i64 x2]]) (H2 := [.box [.fn (.func 40) [] [.ptr 1 0]], .box [.bool x0, .bool x1, .int .i64 x2]]) [1] (by kernel_rfl) (by kernel_rfl) (by kernel_rfl) (by kernel_rfl) (by decide) (by kernel_rfl) (by kernel_rfl) (by kernel_rfl) (.cons (Le.refl _) (.cons (Le.refl _) .nil)) (round_ways_1_s0_ok hy2) (by kernel_rfl) (by kernel_rfl) (by kernel_rfl) ?_
  refine RJ.seg 1 [1] (L2 := [(1, .bool y1)]) (H2 := [.box [.fn (.func 40) [] [.ptr 1 0]], .box [.bool x0, .bool x1, .int .i64 x2]]) (by kernel_rfl) ?_
  refine RJ.end (by kernel_rfl) ?_
  refine PJ.next ?_
  refine K.ret (by kernel_rfl) ?_
  obtain rfl := Option.some.inj h3
  exact K.retV (H0 := [.box [.fn (.func 40) [] [.ptr 1 0]], .box [.bool x0, .bool x1, .int .i64 x2]]) [0, 1] (.inr rfl) hFn hFH hFD (by kernel_rfl) (v1 := .bool y1) (by kernel_rfl) (by kernel_rfl) (by kernel_rfl) (by decide) (by kernel_rfl) (by kernel_rfl) (by kernel_rfl) (by kernel_rfl) (by kernel_rfl)

def round_ways_7_s0 (x0 : Bool) (x1 : Bool) (x2 : Int) : Option (Bool) :=
  (Option.bind (round_ways_1_s0 false x0 x1 x2) fun y1 => (some y1))
theorem round_ways_7_s0_ok {x0 : Bool} {x1 : Bool} {x2 : Int} {r : Bool} (h : round_ways_7_s0 x0 x1 x2 = some r) : SC Try.prog 46 [.ptr 0 0] [.box [.fn (.func 40) [] [.ptr 1 0]], .box [.bool x0, .bool x1, .int .i64 x2]] (.bool r) [.box [.fn (.func 40) [] [.ptr 1 0]], .box [.bool x0, .bool x1, .int .i64 x2]] := by
  refine K.fn (fn := Try.f46) (by kernel_rfl) (by kernel_rfl) (by kernel_rfl) (by kernel_rfl) (by kernel_rfl) (fun F hFn hFH hFD => ?_)
  unfold round_ways_7_s0 at h
  refine K.seq (by kernel_rfl) ?_
  refine K.region (by kernel_rfl) ?_
  refine RJ.seg 1 [0, 1] (L2 := [(0, .ptr 0 0), (1, .bool false)]) (H2 := [.box [.fn (.func 40) [] [.ptr 1 0]], .box [.bool x0, .bool x1, .int .i64 x2]]) (by kernel_rfl) ?_
  refine RJ.end (by kernel_rfl) ?_
  refine PJ.next ?_
  refine K.seq (by kernel_rfl) ?_
  refine K.region (by kernel_rfl) ?_
  refine RJ.seg 1 [1, 2] (L2 := [(1, .bool false), (2, .fn (.func 40) [] [.ptr 1 0])]) (H2 := [.box [.fn (.func 40) [] [.ptr 1 0]], .box [.bool x0, .bool x1, .int .i64 x2]]) (by kernel_rfl) ?_
  obtain ⟨y1, hy2, h3⟩ := bindS h
  refine RJ.callG (d := (some 3)) (f := 40) (args := [.bool false, .ptr 1 0]) (args0 := [.bool false, .ptr 0 0]) (v0 := .bool y1) (v := .bool y1) (tr2 := []) (H0 := [.box [.bool x0, .bool x1, .int .i64 x2]]) (H0' := [.box [.bool x0, .bool x1, .int .i64 x2]]) (H2 := [.box [.fn (.func 40) [] [.ptr 1 0]], .box [.bool x0, .bool x1, .int .i64 x2]]) [1] (by kernel_rfl) (by kernel_rfl) (by kernel_rfl) (by kernel_rfl) (by decide) (by kernel_rfl) (by kernel_rfl) (by kernel_rfl) (.cons (Le.refl _) (.cons (Le.refl _) .nil)) (round_ways_1_s0_ok hy2) (by kernel_rfl) (by kernel_rfl) (by kernel_rfl) ?_
  refine RJ.seg 1 [1] (L2 := [(1, .bool y1)]) (H2 := [.box [.fn (.func 40) [] [.ptr 1 0]], .box [.bool x0, .bool x1, .int .i64 x2]]) (by kernel_rfl) ?_
  refine RJ.end (by kernel_rfl) ?_
  refine PJ.next ?_
  refine K.ret (by kernel_rfl) ?_
  obtain rfl := Option.some.inj h3
  exact K.retV (H0 := [.box [.fn (.func 40) [] [.ptr 1 0]], .box [.bool x0, .bool x1, .int .i64 x2]]) [0, 1] (.inr rfl) hFn hFH hFD (by kernel_rfl) (v1 := .bool y1) (by kernel_rfl) (by kernel_rfl) (by kernel_rfl) (by decide) (by kernel_rfl) (by kernel_rfl) (by kernel_rfl) (by kernel_rfl) (by kernel_rfl)

def round_ways_8_s0 (x0 : Bool) (x1 : Bool) (x2 : Int) : Option (Bool) :=
  (Option.bind (round_ways_1_s0 x1 x0 x1 x2) fun y1 => (some y1))
theorem round_ways_8_s0_ok {x0 : Bool} {x1 : Bool} {x2 : Int} {r : Bool} (h : round_ways_8_s0 x0 x1 x2 = some r) : SC Try.prog 47 [.ptr 0 0, .ptr 1 0] [.box [.fn (.func 40) [] [.ptr 1 0]], .box [.bool x0, .bool x1, .int .i64 x2]] (.bool r) [.box [.fn (.func 40) [] [.ptr 1 0]], .box [.bool x0, .bool x1, .int .i64 x2]] := by
  refine K.fn (fn := Try.f47) (by kernel_rfl) (by kernel_rfl) (by kernel_rfl) (by kernel_rfl) (by kernel_rfl) (fun F hFn hFH hFD => ?_)
  unfold round_ways_8_s0 at h
  refine K.seq (by kernel_rfl) ?_
  refine K.region (by kernel_rfl) ?_
  refine RJ.seg 1 [0, 1, 2] (L2 := [(0, .ptr 0 0), (1, .ptr 1 0), (2, .bool false)]) (H2 := [.box [.fn (.func 40) [] [.ptr 1 0]], .box [.bool x0, .bool x1, .int .i64 x2]]) (by kernel_rfl) ?_
  refine RJ.end (by kernel_rfl) ?_
  refine PJ.next ?_
  refine K.seq (by kernel_rfl) ?_
  refine K.region (by kernel_rfl) ?_
  refine RJ.seg 3 [2, 3, 5] (L2 := [(2, .bool false), (3, .fn (.func 40) [] [.ptr 1 0]), (5, .bool x1)]) (H2 := [.box [.fn (.func 40) [] [.ptr 1 0]], .box [.bool x0, .bool x1, .int .i64 x2]]) (by kernel_rfl) ?_
  obtain ⟨y1, hy2, h3⟩ := bindS h
  refine RJ.callG (d := (some 6)) (f := 40) (args := [.bool x1, .ptr 1 0]) (args0 := [.bool x1, .ptr 0 0]) (v0 := .bool y1) (v := .bool y1) (tr2 := []) (H0 := [.box [.bool x0, .bool x1, .int .i64 x2]]) (H0' := [.box [.bool x0, .bool x1, .int .i64 x2]]) (H2 := [.box [.fn (.func 40) [] [.ptr 1 0]], .box [.bool x0, .bool x1, .int .i64 x2]]) [1] (by kernel_rfl) (by kernel_rfl) (by kernel_rfl) (by kernel_rfl) (by decide) (by kernel_rfl) (by kernel_rfl) (by kernel_rfl) (.cons (Le.refl _) (.cons (Le.refl _) .nil)) (round_ways_1_s0_ok hy2) (by kernel_rfl) (by kernel_rfl) (by kernel_rfl) ?_
  refine RJ.seg 1 [2] (L2 := [(2, .bool y1)]) (H2 := [.box [.fn (.func 40) [] [.ptr 1 0]], .box [.bool x0, .bool x1, .int .i64 x2]]) (by kernel_rfl) ?_
  refine RJ.end (by kernel_rfl) ?_
  refine PJ.next ?_
  refine K.ret (by kernel_rfl) ?_
  obtain rfl := Option.some.inj h3
  exact K.retV (H0 := [.box [.fn (.func 40) [] [.ptr 1 0]], .box [.bool x0, .bool x1, .int .i64 x2]]) [0, 1] (.inr rfl) hFn hFH hFD (by kernel_rfl) (v1 := .bool y1) (by kernel_rfl) (by kernel_rfl) (by kernel_rfl) (by decide) (by kernel_rfl) (by kernel_rfl) (by kernel_rfl) (by kernel_rfl) (by kernel_rfl)

def round_ways_9_s0 (x0 : Bool) (x1 : Bool) (x2 : Int) : Option (Bool) :=
  (Option.bind (round_ways_1_s0 (!x1) x0 x1 x2) fun y1 => (some y1))
theorem round_ways_9_s0_ok {x0 : Bool} {x1 : Bool} {x2 : Int} {r : Bool} (h : round_ways_9_s0 x0 x1 x2 = some r) : SC Try.prog 48 [.ptr 0 0, .ptr 1 0] [.box [.fn (.func 40) [] [.ptr 1 0]], .box [.bool x0, .bool x1, .int .i64 x2]] (.bool r) [.box [.fn (.func 40) [] [.ptr 1 0]], .box [.bool x0, .bool x1, .int .i64 x2]] := by
  refine K.fn (fn := Try.f48) (by kernel_rfl) (by kernel_rfl) (by kernel_rfl) (by kernel_rfl) (by kernel_rfl) (fun F hFn hFH hFD => ?_)
  unfold round_ways_9_s0 at h
  refine K.seq (by kernel_rfl) ?_
  refine K.region (by kernel_rfl) ?_
  refine RJ.seg 1 [0, 1, 2] (L2 := [(0, .ptr 0 0), (1, .ptr 1 0), (2, .bool false)]) (H2 := [.box [.fn (.func 40) [] [.ptr 1 0]], .box [.bool x0, .bool x1, .int .i64 x2]]) (by kernel_rfl) ?_
  refine RJ.end (by kernel_rfl) ?_
  refine PJ.next ?_
  refine K.seq (by kernel_rfl) ?_
  refine K.region (by kernel_rfl) ?_
  refine RJ.seg 4 [2, 3, 6] (L2 := [(2, .bool false), (3, .fn (.func 40) [] [.ptr 1 0]), (6, .bool (!x1))]) (H2 := [.box [.fn (.func 40) [] [.ptr 1 0]], .box [.bool x0, .bool x1, .int .i64 x2]]) (by kernel_rfl) ?_
  obtain ⟨y1, hy2, h3⟩ := bindS h
  refine RJ.callG (d := (some 7)) (f := 40) (args := [.bool (!x1), .ptr 1 0]) (args0 := [.bool (!x1), .ptr 0 0]) (v0 := .bool y1) (v := .bool y1) (tr2 := []) (H0 := [.box [.bool x0, .bool x1, .int .i64 x2]]) (H0' := [.box [.bool x0, .bool x1, .int .i64 x2]]) (H2 := [.box [.fn (.func 40) [] [.ptr 1 0]], .box [.bool x0, .bool x1, .int .i64 x2]]) [1] (by kernel_rfl) (by kernel_rfl) (by kernel_rfl) (by kernel_rfl) (by decide) (by kernel_rfl) (by kernel_rfl) (by kernel_rfl) (.cons (Le.refl _) (.cons (Le.refl _) .nil)) (round_ways_1_s0_ok hy2) (by kernel_rfl) (by kernel_rfl) (by kernel_rfl) ?_
  refine RJ.seg 1 [2] (L2 := [(2, .bool y1)]) (H2 := [.box [.fn (.func 40) [] [.ptr 1 0]], .box [.bool x0, .bool x1, .int .i64 x2]]) (by kernel_rfl) ?_
  refine RJ.end (by kernel_rfl) ?_
  refine PJ.next ?_
  refine K.ret (by kernel_rfl) ?_
  obtain rfl := Option.some.inj h3
  exact K.retV (H0 := [.box [.fn (.func 40) [] [.ptr 1 0]], .box [.bool x0, .bool x1, .int .i64 x2]]) [0, 1] (.inr rfl) hFn hFH hFD (by kernel_rfl) (v1 := .bool y1) (by kernel_rfl) (by kernel_rfl) (by kernel_rfl) (by decide) (by kernel_rfl) (by kernel_rfl) (by kernel_rfl) (by kernel_rfl) (by kernel_rfl)

def slices_Reverse_s0 (x0 : List Int) : Option ((List Int)) :=
  (loopN (fun (s1 : Int × Int × (List Int)) => (bif (decide (s1.1 < s1.2.1)) then (bif inR s1.2.1 s1.2.2.length then (bif inR s1.2.1 s1.2.2.length then (bif inR s1.1 s1.2.2.length then (bif inR s1.1 s1.2.2.length then (bif inR s1.1 s1.2.2.length then (bif inR s1.1 s1.2.2.length then (bif inR s1.2.1 (setAt s1.2.2 s1.1 (nth s1.2.2 s1.2.1)).length then (bif inR s1.2.1 (setAt s1.2.2 s1.1 (nth s1.2.2 s1.2.1)).length then (some (.inl ((IntKind.wrap .i64 (s1.1 + 1)), (IntKind.wrap .i64 (s1.2.1 - 1)), (setAt (setAt s1.2.2 s1.1 (nth s1.2.2 s1.2.1)) s1.2.1 (nth s1.2.2 s1.1))))) else none) else none) else none) else none) else none) else none) else none) else none) else (some (.inr s1.2.2)))) big (0, (IntKind.wrap .i64 ((x0.length : Int) - 1)), x0))
theorem slices_Reverse_s0_ok {x0 : List Int} {r : (List Int)} (h : slices_Reverse_s0 x0 = some r) : SC Try.prog 49 [.vc 0] [vecL (encI .u8) 1 5 x0] (.tup []) [vecL (encI .u8) 1 5 r] := by
  refine K.fn (fn := Try.f49) (by kernel_rfl) (by kernel_rfl) (by kernel_rfl) (by kernel_rfl) (by kernel_rfl) (fun F hFn hFH hFD => ?_)
  unfold slices_Reverse_s0 at h
  refine K.seq (by kernel_rfl) ?_
  refine K.region (by kernel_rfl) ?_
  refine RJ.seg 5 [0, 2, 3] (L2 := [(0, .vc 0), (2, .int .i64 0), (3, .int .i64 ((IntKind.wrap .i64 ((x0.length : Int) - 1))))]) (H2 := [vecL (encI .u8) 1 5 x0]) (by kernel_rfl) ?_
  refine RJ.end (by kernel_rfl) ?_
  refine PJ.next ?_
  refine K.block 0 (by kernel_rfl) ?_
  refine K.loop (by kernel_rfl) (fun (s1 : Int × Int × (List Int)) => ([(0, .vc 0), (2, .int .i64 s1.1), (3, .int .i64 s1.2.1)], [vecL (encI .u8) 1 5 s1.2.2])) h [0, 2, 3] (by kernel_rfl) (by kernel_rfl) (fun s1 x29 hs28 => ?_)
  refine K.seq (by kernel_rfl) ?_
  refine K.seq (by kernel_rfl) ?_
  refine K.region (by kernel_rfl) ?_
  refine RJ.seg 3 [0, 2, 3, 9] (L2 := [(0, .vc 0), (2, .int .i64 s1.1), (3, .int .i64 s1.2.1), (9, .bool (decide (s1.1 < s1.2.1)))]) (H2 := [vecL (encI .u8) 1 5 s1.2.2]) (by kernel_rfl) ?_
  refine RJ.end (by kernel_rfl) ?_
  refine PJ.next ?_
  refine J.caseB 9 (b := (decide (s1.1 < s1.2.1))) (by kernel_rfl) (fun hb30 => ?_) (fun hb30 => ?_)
  · have h31 := condT hb30 hs28
    refine K.condT (by kernel_rfl) ?_
    refine K.skip (by kernel_rfl) ?_
    refine PJ.next ?_
    refine K.seq (by kernel_rfl) ?_
    refine K.block 1 (by kernel_rfl) ?_
    refine J.keep [0, 2, 3] (L2 := [(0, .vc 0), (2, .int .i64 s1.1), (3, .int .i64 s1.2.1)]) (by kernel_rfl) ?_
    refine K.draw (by kernel_rfl) (by kernel_rfl) (by kernel_rfl) (H2 := [vecL (encI .u8) 1 5 s1.2.2]) (by kernel_rfl) (n := 1) (by kernel_rfl) ?_
    refine RJ.segD 6 (tr2 := [([], []), ([], []), ([], []), ([], []), ([], []), ([], [])]) (L2 := [(19, .int .i64 s1.2.1), (18, .vc 0), (17, .int .i64 s1.2.1), (16, .vc 0), (15, .int .i64 s1.1), (14, .vc 0), (0, .vc 0), (2, .int .i64 s1.1), (3, .int .i64 s1.2.1)]) (H2 := [vecL (encI .u8) 1 5 s1.2.2]) (by kernel_rfl) ?_
    obtain ⟨hm, h33⟩ := asrt h31
    refine RJ.rel (d := (some 20)) (ef := ⟨.ptr 0 ((s1.2.1 : Int).toNat * 1), [0], []⟩) (ef' := ⟨.ptr 0 ((s1.2.1 : Int).toNat * 1), [0], []⟩) (c := inR s1.2.1 s1.2.2.length) (tr2 := [([], []), ([], []), ([], []), ([], []), ([], []), ([], []), ([1], [])]) (H2 := [vecL (encI .u8) 1 5 s1.2.2]) (by kernel_rfl) hm (fun hc => rfl) (by kernel_rfl) ?_
    obtain ⟨hm, h34⟩ := asrt h33
    refine RJ.rel (d := (some 21)) (ef := ⟨(((s1.2.2).flatMap (encI .u8)).drop ((s1.2.1 : Int).toNat * 1)).headD .undef, [0], []⟩) (ef' := ⟨.int .u8 (nth s1.2.2 s1.2.1), [0], []⟩) (c := Nat.blt ((s1.2.1 : Int).toNat * 1) (s1.2.2.flatMap (encI .u8)).length) (tr2 := [([], []), ([], []), ([], []), ([], []), ([], []), ([], []), ([1], []), ([0, 1], [])]) (H2 := [vecL (encI .u8) 1 5 s1.2.2]) (by kernel_rfl) (loadv_ok (encI_len .u8) rfl hm) (fun hc => N.load1 (encI_len .u8) (fun _ => rfl) hm) (by kernel_rfl) ?_
    refine RJ.segD 2 (tr2 := [([], []), ([], []), ([], []), ([], []), ([], []), ([], []), ([1], []), ([0, 1], []), ([], []), ([], [])]) (L2 := [(23, .int .i64 s1.1), (22, .vc 0), (21, .int .u8 (nth s1.2.2 s1.2.1)), (20, .ptr 0 ((s1.2.1 : Int).toNat * 1)), (19, .int .i64 s1.2.1), (18, .vc 0), (17, .int .i64 s1.2.1), (16, .vc 0), (15, .int .i64 s1.1), (14, .vc 0), (0, .vc 0), (2, .int .i64 s1.1), (3, .int .i64 s1.2.1)]) (H2 := [vecL (encI .u8) 1 5 s1.2.2]) (by kernel_rfl) ?_
    obtain ⟨hm, h35⟩ := asrt h34
    refine RJ.rel (d := (some 24)) (ef := ⟨.ptr 0 ((s1.1 : Int).toNat * 1), [0], []⟩) (ef' := ⟨.ptr 0 ((s1.1 : Int).toNat * 1), [0], []⟩) (c := inR s1.1 s1.2.2.length) (tr2 := [([], []), ([], []), ([], []), ([], []), ([], []), ([], []), ([1], []), ([0, 1], []), ([], []), ([], []), ([1], [])]) (H2 := [vecL (encI .u8) 1 5 s1.2.2]) (by kernel_rfl) hm (fun hc => rfl) (by kernel_rfl) ?_
    obtain ⟨hm, h36⟩ := asrt h35
    refine RJ.rel (d := (some 25)) (ef := ⟨(((s1.2.2).flatMap (encI .u8)).drop ((s1.1 : Int).toNat * 1)).headD .undef, [0], []⟩) (ef' := ⟨.int .u8 (nth s1.2.2 s1.1), [0], []⟩) (c := Nat.blt ((s1.1 : Int).toNat * 1) (s1.2.2.flatMap (encI .u8)).length) (tr2 := [([], []), ([], []), ([], []), ([], []), ([], []), ([], []), ([1], []), ([0, 1], []), ([], []), ([], []), ([1], []), ([0, 1], [])]) (H2 := [vecL (encI .u8) 1 5 s1.2.2]) (by kernel_rfl) (loadv_ok (encI_len .u8) rfl hm) (fun hc => N.load1 (encI_len .u8) (fun _ => rfl) hm) (by kernel_rfl) ?_
    obtain ⟨hm, h37⟩ := asrt h36
    refine RJ.rel (d := (some 26)) (ef := ⟨.ptr 0 ((s1.1 : Int).toNat * 1), [0], []⟩) (ef' := ⟨.ptr 0 ((s1.1 : Int).toNat * 1), [0], []⟩) (c := inR s1.1 s1.2.2.length) (tr2 := [([], []), ([], []), ([], []), ([], []), ([], []), ([], []), ([1], []), ([0, 1], []), ([], []), ([], []), ([1], []), ([0, 1], []), ([1], [])]) (H2 := [vecL (encI .u8) 1 5 s1.2.2]) (by kernel_rfl) hm (fun hc => rfl) (by kernel_rfl) ?_
    obtain ⟨hm, h38⟩ := asrt h37
    refine RJ.rel (d := none) (ef := ⟨.undef, [0], [(0, .vec (s1.2.2).length 1 5 (splice ((s1.2.2).flatMap (encI .u8)) ((s1.1 : Int).toNat * 1) ((encI .u8) (nth s1.2.2 s1.2.1))))]⟩) (ef' := ⟨.undef, [0], [(0, vecL (encI .u8) 1 5 (setAt s1.2.2 s1.1 (nth s1.2.2 s1.2.1)))]⟩) (c := Nat.ble (((s1.1 : Int).toNat * 1) + ((encI .u8) (nth s1.2.2 s1.2.1)).length) (s1.2.2.flatMap (encI .u8)).length) (tr2 := [([], []), ([], []), ([], []), ([], []), ([], []), ([], []), ([1], []), ([0, 1], []), ([], []), ([], []), ([1], []), ([0, 1], []), ([1], []), ([0, 1], [0])]) (H2 := [vecL (encI .u8) 1 5 (setAt s1.2.2 s1.1 (nth s1.2.2 s1.2.1))]) (by kernel_rfl) (storev_ok (encI_len .u8) hm) (fun hc => N.store (encI_len .u8) hm) (by kernel_rfl) ?_
    obtain ⟨hm, h39⟩ := asrt h38
    refine RJ.rel (d := (some 27)) (ef := ⟨.ptr 0 ((s1.2.1 : Int).toNat * 1), [0], []⟩) (ef' := ⟨.ptr 0 ((s1.2.1 : Int).toNat * 1), [0], []⟩) (c := inR s1.2.1 (setAt s1.2.2 s1.1 (nth s1.2.2 s1.2.1)).length) (tr2 := [([], []), ([], []), ([], []), ([], []), ([], []), ([], []), ([1], []), ([0, 1], []), ([], []), ([], []), ([1], []), ([0, 1], []), ([1], []), ([0, 1], [0]), ([1], [])]) (H2 := [vecL (encI .u8) 1 5 (setAt s1.2.2 s1.1 (nth s1.2.2 s1.2.1))]) (by kernel_rfl) hm (fun hc => rfl) (by kernel_rfl) ?_
    obtain ⟨hm, h40⟩ := asrt h39
    refine RJ.rel (d := none) (ef := ⟨.undef, [0], [(0, .vec ((setAt s1.2.2 s1.1 (nth s1.2.2 s1.2.1))).length 1 5 (splice (((setAt s1.2.2 s1.1 (nth s1.2.2 s1.2.1))).flatMap (encI .u8)) ((s1.2.1 : Int).toNat * 1) ((encI .u8) (nth s1.2.2 s1.1))))]⟩) (ef' := ⟨.undef, [0], [(0, vecL (encI .u8) 1 5 (setAt (setAt s1.2.2 s1.1 (nth s1.2.2 s1.2.1)) s1.2.1 (nth s1.2.2 s1.1)))]⟩) (c := Nat.ble (((s1.2.1 : Int).toNat * 1) + ((encI .u8) (nth s1.2.2 s1.1)).length) ((setAt s1.2.2 s1.1 (nth s1.2.2 s1.2.1)).flatMap (encI .u8)).length) (tr2 := [([], []), ([], []), ([], []), ([], []), ([], []), ([], []), ([1], []), ([0, 1], []), ([], []), ([], []), ([1], []), ([0, 1], []), ([1], []), ([0, 1], [0]), ([1], []), ([0, 1], [0])]) (H2 := [vecL (encI .u8) 1 5 ((setAt (setAt s1.2.2 s1.1 (nth s1.2.2 s1.2.1)) s1.2.1 (nth s1.2.2 s1.1)))]) (by kernel_rfl) (storev_ok (encI_len .u8) hm) (fun hc => N.store (encI_len .u8) hm) (by kernel_rfl) ?_
    refine RJ.end (by kernel_rfl) ?_
    refine PJ.blockNormal ?_
    refine PJ.next ?_
    refine K.region (by kernel_rfl) ?_
    refine RJ.seg 6 [0, 2, 3] (L2 := [(0, .vc 0), (2, .int .i64 (IntKind.wrap .i64 (s1.1 + 1))), (3, .int .i64 (IntKind.wrap .i64 (s1.2.1 - 1)))]) (H2 := [vecL (encI .u8) 1 5 ((setAt (setAt s1.2.2 s1.1 (nth s1.2.2 s1.2.1)) s1.2.1 (nth s1.2.2 s1.1)))]) (by kernel_rfl) ?_
    refine RJ.end (by kernel_rfl) ?_
    obtain rfl := Option.some.inj h40
    exact PJ.loopNext [0, 2, 3] (by kernel_rfl) (by kernel_rfl)
  · have h32 := condF hb30 hs28
    refine K.condF (by kernel_rfl) ?_
    refine K.exit 0 (by kernel_rfl) ?_
    refine PJ.passExit ?_
    obtain rfl := Option.some.inj h32
    refine PJ.loopOut (fun e => nomatch e) (fun he42 => ?_)
    have h41 := congrArg some he42
    refine PJ.blockOut ?_
    obtain rfl := Option.some.inj h41
    exact K.retV (H0 := [vecL (encI .u8) 1 5 x0]) [0] (.inl rfl) hFn hFH hFD (by kernel_rfl) (v1 := .tup []) (by kernel_rfl) (by kernel_rfl) (by kernel_rfl) (by decide) (by kernel_rfl) (by kernel_rfl) (by kernel_rfl) (by kernel_rfl) (by kernel_rfl)

def round_times (x0 : List Int) (x1 : Int) : Option (List Int) :=
  (Option.bind (loopN (fun (s30 : Int × Int × (List Int)) => (bif (decide (s30.2.1 ≥ 0)) then (bif inR s30.2.1 x0.length then (bif room (s30.2.2.length + (([(IntKind.wrap .u8 ((Int.tmod ((IntKind.wrap .i64 (s30.1 + ((IntKind.wrap .i64 ((IntKind.wrap .i64 (nth x0 s30.2.1)) * x1)))))) 10)))] : List Int)).length) then (some (.inl ((IntKind.wrap .i64 (Int.tdiv ((IntKind.wrap .i64 (s30.1 + ((IntKind.wrap .i64 ((IntKind.wrap .i64 (nth x0 s30.2.1)) * x1)))))) 10)), (IntKind.wrap .i64 (s30.2.1 - 1)), (s30.2.2 ++ (([(IntKind.wrap .u8 ((Int.tmod ((IntKind.wrap .i64 (s30.1 + ((IntKind.wrap .i64 ((IntKind.wrap .i64 (nth x0 s30.2.1)) * x1)))))) 10)))] : List Int)))))) else none) else none) else (some (.inr (s30.1, s30.2.2))))) big (0, (IntKind.wrap .i64 ((x0.length : Int) - 1)), ([] : List Int))) fun (s25 : Int × (List Int)) => (Option.bind (loopN (fun (s80 : Int × (List Int)) => (bif (decide (s80.1 > 0)) then (bif room (s80.2.length + (([(IntKind.wrap .u8 (Int.tmod s80.1 10))] : List Int)).length) then (some (.inl ((IntKind.wrap .i64 (Int.tdiv s80.1 10)), (s80.2 ++ (([(IntKind.wrap .u8 (Int.tmod s80.1 10))] : List Int)))))) else none) else (some (.inr s80.2)))) big (s25.1, s25.2)) fun (s75 : (List Int)) => (Option.bind (slices_Reverse_s0 s75) fun y101 => (some y101))))
theorem round_times_ok {x0 : List Int} {x1 : Int} {r : List Int} (h : round_times x0 x1 = some r) : SC Try.prog 32 [lsv (encI .u8) 1 x0, .int .i64 x1] [] (lsv (encI .u8) 1 r) [] := by
  refine K.fn (fn := Try.f32) (by kernel_rfl) (by kernel_rfl) (by kernel_rfl) (by kernel_rfl) (by kernel_rfl) (fun F hFn hFH hFD => ?_)
  unfold round_times at h
  refine K.seq (by kernel_rfl) ?_
  refine K.region (by kernel_rfl) ?_
  refine RJ.seg 1 [0, 1, 4] (L2 := [(0, lsv (encI .u8) 1 x0), (1, .int .i64 x1), (4, .nl)]) (H2 := []) (by kernel_rfl) ?_
  refine RJ.end (by kernel_rfl) ?_
  refine PJ.next ?_
  refine K.seq (by kernel_rfl) ?_
  refine K.region (by kernel_rfl) ?_
  refine RJ.seg 1 [0, 1, 4, 5] (L2 := [(0, lsv (encI .u8) 1 x0), (1, .int .i64 x1), (4, .nl), (5, .nl)]) (H2 := []) (by kernel_rfl) ?_
  refine RJ.end (by kernel_rfl) ?_
  refine PJ.next ?_
  refine K.seq (by kernel_rfl) ?_
  refine K.region (by kernel_rfl) ?_
  refine RJ.seg 1 [0, 1, 4, 5, 6] (L2 := [(0, lsv (encI .u8) 1 x0), (1, .int .i64 x1), (4, .nl), (5, .nl), (6, .int .i64 0)]) (H2 := []) (by kernel_rfl) ?_
  refine RJ.end (by kernel_rfl) ?_
  refine PJ.next ?_
  obtain ⟨s25, hy27, h29⟩ := bindS h
  refine K.cutN (by kernel_rfl) (fun (s25 : Int × (List Int)) => ([(4, .nl), (5, .vc 0), (6, .int .i64 s25.1)], [vecL (encI .u8) 1 5 s25.2])) s25 ?_ ?_
  · refine K.seq (by kernel_rfl) ?_
    refine K.region (by kernel_rfl) ?_
    refine RJ.seg 4 [0, 1, 4, 5, 6, 7] (L2 := [(0, lsv (encI .u8) 1 x0), (1, .int .i64 x1), (4, .nl), (5, .nl), (6, .int .i64 0), (7, .int .i64 ((IntKind.wrap .i64 ((x0.length : Int) - 1))))]) (H2 := []) (by kernel_rfl) ?_
    refine RJ.end (by kernel_rfl) ?_
    refine PJ.next ?_
    refine K.block 0 (by kernel_rfl) ?_
    refine J.wk (Wk.viv 5 1 5 (by kernel_rfl)) ?_
    refine K.loop (by kernel_rfl) (fun (s30 : Int × Int × (List Int)) => ([(0, lsv (encI .u8) 1 x0), (1, .int .i64 x1), (4, .nl), (5, .vc 0), (6, .int .i64 s30.1), (7, .int .i64 s30.2.1)], [vecL (encI .u8) 1 5 s30.2.2])) hy27 [0, 1, 4, 5, 6, 7] (by kernel_rfl) (by kernel_rfl) (fun s30 x46 hs45 => ?_)
    refine K.seq (by kernel_rfl) ?_
    refine K.seq (by kernel_rfl) ?_
    refine K.region (by kernel_rfl) ?_
    refine RJ.seg 2 [0, 1, 4, 5, 6, 7, 12] (L2 := [(0, lsv (encI .u8) 1 x0), (1, .int .i64 x1), (4, .nl), (5, .vc 0), (6, .int .i64 s30.1), (7, .int .i64 s30.2.1), (12, .bool (decide (s30.2.1 ≥ 0)))]) (H2 := [vecL (encI .u8) 1 5 s30.2.2]) (by kernel_rfl) ?_
    refine RJ.end (by kernel_rfl) ?_
    refine PJ.next ?_
    refine J.caseB 12 (b := (decide (s30.2.1 ≥ 0))) (by kernel_rfl) (fun hb47 => ?_) (fun hb47 => ?_)
    · have h48 := condT hb47 hs45
      refine K.condT (by kernel_rfl) ?_
      refine K.skip (by kernel_rfl) ?_
      refine PJ.next ?_
      refine K.seq (by kernel_rfl) ?_
      refine K.block 1 (by kernel_rfl) ?_
      refine K.seq (by kernel_rfl) ?_
      refine K.region (by kernel_rfl) ?_
      refine RJ.seg 3 [0, 1, 4, 5, 6, 7, 15, 16, 17] (L2 := [(0, lsv (encI .u8) 1 x0), (1, .int .i64 x1), (4, .nl), (5, .vc 0), (6, .int .i64 s30.1), (7, .int .i64 s30.2.1), (15, .int .i64 s30.1), (16, lsv (encI .u8) 1 x0), (17, .int .i64 s30.2.1)]) (H2 := [vecL (encI .u8) 1 5 s30.2.2]) (by kernel_rfl) ?_
      obtain ⟨hm, h50⟩ := asrt h48
      refine RJ.rel (d := (some 18)) (ef := ⟨.ep (((x0.flatMap (encI .u8)).drop ((s30.2.1 : Int).toNat * 1)).take 1), [], []⟩) (ef' := ⟨.ep ((encI .u8) (nth x0 s30.2.1)), [], []⟩) (c := inR s30.2.1 x0.length) (tr2 := []) (H2 := [vecL (encI .u8) 1 5 s30.2.2]) (by kernel_rfl) hm (fun hc => N.idx (encI_len .u8) hc) (by kernel_rfl) ?_
      refine RJ.seg 6 [0, 1, 4, 5, 6, 7] (L2 := [(0, lsv (encI .u8) 1 x0), (1, .int .i64 x1), (4, .nl), (5, .vc 0), (6, .int .i64 ((IntKind.wrap .i64 (s30.1 + ((IntKind.wrap .i64 ((IntKind.wrap .i64 (nth x0 s30.2.1)) * x1))))))), (7, .int .i64 s30.2.1)]) (H2 := [vecL (encI .u8) 1 5 s30.2.2]) (by kernel_rfl) ?_
      refine RJ.end (by kernel_rfl) ?_
      refine PJ.next ?_
      refine K.seq (by kernel_rfl) ?_
      refine K.region (by kernel_rfl) ?_
      refine RJ.seg 5 [0, 1, 4, 5, 6, 7, 24, 28] (L2 := [(0, lsv (encI .u8) 1 x0), (1, .int .i64 x1), (4, .nl), (5, .vc 0), (6, .int .i64 ((IntKind.wrap .i64 (s30.1 + ((IntKind.wrap .i64 ((IntKind.wrap .i64 (nth x0 s30.2.1)) * x1))))))), (7, .int .i64 s30.2.1), (24, .vc 0), (28, .vc 1)]) (H2 := [vecL (encI .u8) 1 5 s30.2.2, vecL (encI .u8) 1 5 (([(IntKind.wrap .u8 ((Int.tmod ((IntKind.wrap .i64 (s30.1 + ((IntKind.wrap .i64 ((IntKind.wrap .i64 (nth x0 s30.2.1)) * x1)))))) 10)))] : List Int))]) (by kernel_rfl) ?_
      obtain ⟨hm, h51⟩ := asrt h50
      refine RJ.rel (d := (some 29)) (ef := ⟨.vc 2, [0, 1], [(0, .gone), (2, .vec (s30.2.2.length + (([(IntKind.wrap .u8 ((Int.tmod ((IntKind.wrap .i64 (s30.1 + ((IntKind.wrap .i64 ((IntKind.wrap .i64 (nth x0 s30.2.1)) * x1)))))) 10)))] : List Int)).length) 1 5 (s30.2.2.flatMap (encI .u8) ++ (([(IntKind.wrap .u8 ((Int.tmod ((IntKind.wrap .i64 (s30.1 + ((IntKind.wrap .i64 ((IntKind.wrap .i64 (nth x0 s30.2.1)) * x1)))))) 10)))] : List Int)).flatMap (encI .u8)))]⟩) (ef' := ⟨.vc 2, [0, 1], [(0, .gone), (2, vecL (encI .u8) 1 5 (s30.2.2 ++ (([(IntKind.wrap .u8 ((Int.tmod ((IntKind.wrap .i64 (s30.1 + ((IntKind.wrap .i64 ((IntKind.wrap .i64 (nth x0 s30.2.1)) * x1)))))) 10)))] : List Int))))]⟩) (c := room (s30.2.2.length + (([(IntKind.wrap .u8 ((Int.tmod ((IntKind.wrap .i64 (s30.1 + ((IntKind.wrap .i64 ((IntKind.wrap .i64 (nth x0 s30.2.1)) * x1)))))) 10)))] : List Int)).length)) (tr2 := []) (H2 := [.gone, vecL (encI .u8) 1 5 (([(IntKind.wrap .u8 ((Int.tmod ((IntKind.wrap .i64 (s30.1 + ((IntKind.wrap .i64 ((IntKind.wrap .i64 (nth x0 s30.2.1)) * x1)))))) 10)))] : List Int)), vecL (encI .u8) 1 5 ((s30.2.2 ++ (([(IntKind.wrap .u8 ((Int.tmod ((IntKind.wrap .i64 (s30.1 + ((IntKind.wrap .i64 ((IntKind.wrap .i64 (nth x0 s30.2.1)) * x1)))))) 10)))] : List Int))))]) (by kernel_rfl) hm (fun hc => N.app) (by kernel_rfl) ?_
      refine RJ.seg 1 [0, 1, 4, 5, 6, 7] (L2 := [(0, lsv (encI .u8) 1 x0), (1, .int .i64 x1), (4, .nl), (5, .vc 2), (6, .int .i64 ((IntKind.wrap .i64 (s30.1 + ((IntKind.wrap .i64 ((IntKind.wrap .i64 (nth x0 s30.2.1)) * x1))))))), (7, .int .i64 s30.2.1)]) (H2 := [.gone, vecL (encI .u8) 1 5 (([(IntKind.wrap .u8 ((Int.tmod ((IntKind.wrap .i64 (s30.1 + ((IntKind.wrap .i64 ((IntKind.wrap .i64 (nth x0 s30.2.1)) * x1)))))) 10)))] : List Int)), vecL (encI .u8) 1 5 ((s30.2.2 ++ (([(IntKind.wrap .u8 ((Int.tmod ((IntKind.wrap .i64 (s30.1 + ((IntKind.wrap .i64 ((IntKind.wrap .i64 (nth x0 s30.2.1)) * x1)))))) 10)))] : List Int))))]) (by kernel_rfl) ?_
      refine RJ.end (by kernel_rfl) ?_
      refine PJ.next ?_
      refine K.region (by kernel_rfl) ?_
      refine RJ.seg 3 [0, 1, 4, 5, 6, 7] (L2 := [(0, lsv (encI .u8) 1 x0), (1, .int .i64 x1), (4, .nl), (5, .vc 2), (6, .int .i64 ((IntKind.wrap .i64 (Int.tdiv ((IntKind.wrap .i64 (s30.1 + ((IntKind.wrap .i64 ((IntKind.wrap .i64 (nth x0 s30.2.1)) * x1)))))) 10)))), (7, .int .i64 s30.2.1)]) (H2 := [.gone, vecL (encI .u8) 1 5 (([(IntKind.wrap .u8 ((Int.tmod ((IntKind.wrap .i64 (s30.1 + ((IntKind.wrap .i64 ((IntKind.wrap .i64 (nth x0 s30.2.1)) * x1)))))) 10)))] : List Int)), vecL (encI .u8) 1 5 ((s30.2.2 ++ (([(IntKind.wrap .u8 ((Int.tmod ((IntKind.wrap .i64 (s30.1 + ((IntKind.wrap .i64 ((IntKind.wrap .i64 (nth x0 s30.2.1)) * x1)))))) 10)))] : List Int))))]) (by kernel_rfl) ?_
      refine RJ.end (by kernel_rfl) ?_
      refine PJ.blockNormal ?_
      refine PJ.next ?_
      refine K.region (by kernel_rfl) ?_
      refine RJ.seg 3 [0, 1, 4, 5, 6, 7] (L2 := [(0, lsv (encI .u8) 1 x0), (1, .int .i64 x1), (4, .nl), (5, .vc 2), (6, .int .i64 ((IntKind.wrap .i64 (Int.tdiv ((IntKind.wrap .i64 (s30.1 + ((IntKind.wrap .i64 ((IntKind.wrap .i64 (nth x0 s30.2.1)) * x1)))))) 10)))), (7, .int .i64 (IntKind.wrap .i64 (s30.2.1 - 1)))]) (H2 := [.gone, vecL (encI .u8) 1 5 (([(IntKind.wrap .u8 ((Int.tmod ((IntKind.wrap .i64 (s30.1 + ((IntKind.wrap .i64 ((IntKind.wrap .i64 (nth x0 s30.2.1)) * x1)))))) 10)))] : List Int)), vecL (encI .u8) 1 5 ((s30.2.2 ++ (([(IntKind.wrap .u8 ((Int.tmod ((IntKind.wrap .i64 (s30.1 + ((IntKind.wrap .i64 ((IntKind.wrap .i64 (nth x0 s30.2.1)) * x1)))))) 10)))] : List Int))))]) (by kernel_rfl) ?_
      refine RJ.end (by kernel_rfl) ?_
      obtain rfl := Option.some.inj h51
      refine PJ.wk (Wk.sel (L2 := [(0, lsv (encI .u8) 1 x0), (1, .int .i64 x1), (4, .nl), (5, .vc 0), (6, .int .i64 ((IntKind.wrap .i64 (Int.tdiv ((IntKind.wrap .i64 (s30.1 + ((IntKind.wrap .i64 ((IntKind.wrap .i64 (nth x0 s30.2.1)) * x1)))))) 10)))), (7, .int .i64 (IntKind.wrap .i64 (s30.2.1 - 1)))]) (H2 := [vecL (encI .u8) 1 5 ((s30.2.2 ++ (([(IntKind.wrap .u8 ((Int.tmod ((IntKind.wrap .i64 (s30.1 + ((IntKind.wrap .i64 ((IntKind.wrap .i64 (nth x0 s30.2.1)) * x1)))))) 10)))] : List Int))))]) 0 (by rw [hFH]; rfl) hFD [2] (by kernel_rfl) (by kernel_rfl) (by decide) (by kernel_rfl) (by kernel_rfl) (by kernel_rfl) (by kernel_rfl)) ?_
      exact PJ.loopNext [0, 1, 4, 5, 6, 7] (by kernel_rfl) (by kernel_rfl)
    · have h49 := condF hb47 hs45
      refine K.condF (by kernel_rfl) ?_
      refine K.exit 0 (by kernel_rfl) ?_
      refine PJ.passExit ?_
      obtain rfl := Option.some.inj h49
      refine PJ.loopOut (fun e => nomatch e) (fun he53 => ?_)
      have h52 := congrArg some he53
      refine PJ.blockOut ?_
      obtain rfl := Option.some.inj h52
      exact PJ.cutN [4, 5, 6] (by kernel_rfl) (by kernel_rfl)
  · obtain ⟨s75, hy77, h79⟩ := bindS h29
    refine K.cutN (by kernel_rfl) (fun (s75 : (List Int)) => ([(4, .nl), (5, .vc 0)], [vecL (encI .u8) 1 5 s75])) s75 ?_ ?_
    · refine K.block 2 (by kernel_rfl) ?_
      refine K.loop (by kernel_rfl) (fun (s80 : Int × (List Int)) => ([(4, .nl), (5, .vc 0), (6, .int .i64 s80.1)], [vecL (encI .u8) 1 5 s80.2])) hy77 [4, 5, 6] (by kernel_rfl) (by kernel_rfl) (fun s80 x94 hs93 => ?_)
      refine K.seq (by kernel_rfl) ?_
      refine K.seq (by kernel_rfl) ?_
      refine K.region (by kernel_rfl) ?_
      refine RJ.seg 2 [4, 5, 6, 33] (L2 := [(4, .nl), (5, .vc 0), (6, .int .i64 s80.1), (33, .bool (decide (s80.1 > 0)))]) (H2 := [vecL (encI .u8) 1 5 s80.2]) (by kernel_rfl) ?_
      refine RJ.end (by kernel_rfl) ?_
      refine PJ.next ?_
      refine J.caseB 33 (b := (decide (s80.1 > 0))) (by kernel_rfl) (fun hb95 => ?_) (fun hb95 => ?_)
      · have h96 := condT hb95 hs93
        refine K.condT (by kernel_rfl) ?_
        refine K.skip (by kernel_rfl) ?_
        refine PJ.next ?_
        refine K.seq (by kernel_rfl) ?_
        refine K.block 3 (by kernel_rfl) ?_
        refine K.region (by kernel_rfl) ?_
        refine RJ.seg 5 [4, 5, 6, 36, 40] (L2 := [(4, .nl), (5, .vc 0), (6, .int .i64 s80.1), (36, .vc 0), (40, .vc 1)]) (H2 := [vecL (encI .u8) 1 5 s80.2, vecL (encI .u8) 1 5 (([(IntKind.wrap .u8 (Int.tmod s80.1 10))] : List Int))]) (by kernel_rfl) ?_
        obtain ⟨hm, h98⟩ := asrt h96
        refine RJ.rel (d := (some 41)) (ef := ⟨.vc 2, [0, 1], [(0, .gone), (2, .vec (s80.2.length + (([(IntKind.wrap .u8 (Int.tmod s80.1 10))] : List Int)).length) 1 5 (s80.2.flatMap (encI .u8) ++ (([(IntKind.wrap .u8 (Int.tmod s80.1 10))] : List Int)).flatMap (encI .u8)))]⟩) (ef' := ⟨.vc 2, [0, 1], [(0, .gone), (2, vecL (encI .u8) 1 5 (s80.2 ++ (([(IntKind.wrap .u8 (Int.tmod s80.1 10))] : List Int))))]⟩) (c := room (s80.2.length + (([(IntKind.wrap .u8 (Int.tmod s80.1 10))] : List Int)).length)) (tr2 := []) (H2 := [.gone, vecL (encI .u8) 1 5 (([(IntKind.wrap .u8 (Int.tmod s80.1 10))] : List Int)), vecL (encI .u8) 1 5 ((s80.2 ++ (([(IntKind.wrap .u8 (Int.tmod s80.1 10))] : List Int))))]) (by kernel_rfl) hm (fun hc => N.app) (by kernel_rfl) ?_
        refine RJ.seg 1 [4, 5, 6] (L2 := [(4, .nl), (5, .vc 2), (6, .int .i64 s80.1)]) (H2 := [.gone, vecL (encI .u8) 1 5 (([(IntKind.wrap .u8 (Int.tmod s80.1 10))] : List Int)), vecL (encI .u8) 1 5 ((s80.2 ++ (([(IntKind.wrap .u8 (Int.tmod s80.1 10))] : List Int))))]) (by kernel_rfl) ?_
        refine RJ.end (by kernel_rfl) ?_
        refine PJ.blockNormal ?_
        refine PJ.next ?_
        refine K.region (by kernel_rfl) ?_
        refine RJ.seg 3 [4, 5, 6] (L2 := [(4, .nl), (5, .vc 2), (6, .int .i64 (IntKind.wrap .i64 (Int.tdiv s80.1 10)))]) (H2 := [.gone, vecL (encI .u8) 1 5 (([(IntKind.wrap .u8 (Int.tmod s80.1 10))] : List Int)), vecL (encI .u8) 1 5 ((s80.2 ++ (([(IntKind.wrap .u8 (Int.tmod s80.1 10))] : List Int))))]) (by kernel_rfl) ?_
        refine RJ.end (by kernel_rfl) ?_
        obtain rfl := Option.some.inj h98
        refine PJ.wk (Wk.sel (L2 := [(4, .nl), (5, .vc 0), (6, .int .i64 (IntKind.wrap .i64 (Int.tdiv s80.1 10)))]) (H2 := [vecL (encI .u8) 1 5 ((s80.2 ++ (([(IntKind.wrap .u8 (Int.tmod s80.1 10))] : List Int))))]) 0 (by rw [hFH]; rfl) hFD [2] (by kernel_rfl) (by kernel_rfl) (by decide) (by kernel_rfl) (by kernel_rfl) (by kernel_rfl) (by kernel_rfl)) ?_
        exact PJ.loopNext [4, 5, 6] (by kernel_rfl) (by kernel_rfl)
      · have h97 := condF hb95 hs93
        refine K.condF (by kernel_rfl) ?_
        refine K.exit 2 (by kernel_rfl) ?_
        refine PJ.passExit ?_
        obtain rfl := Option.some.inj h97
        refine PJ.loopOut (fun e => nomatch e) (fun he100 => ?_)
        have h99 := congrArg some he100
        refine PJ.blockOut ?_
        obtain rfl := Option.some.inj h99
        exact PJ.cutN [4, 5] (by kernel_rfl) (by kernel_rfl)
    · refine K.seq (by kernel_rfl) ?_
      refine K.region (by kernel_rfl) ?_
      refine RJ.seg 1 [4, 5, 42] (L2 := [(4, .nl), (5, .vc 0), (42, .vc 0)]) (H2 := [vecL (encI .u8) 1 5 s75]) (by kernel_rfl) ?_
      obtain ⟨y101, hy102, h103⟩ := bindS h79
      refine RJ.callG (d := (some 43)) (f := 49) (args := [.vc 0]) (args0 := [.vc 0]) (v0 := .tup []) (v := .tup []) (tr2 := []) (H0 := [vecL (encI .u8) 1 5 s75]) (H0' := [vecL (encI .u8) 1 5 y101]) (H2 := [vecL (encI .u8) 1 5 y101]) [0] (by kernel_rfl) (by kernel_rfl) (by kernel_rfl) (by kernel_rfl) (by decide) (by kernel_rfl) (by kernel_rfl) (by kernel_rfl) (.cons (Le.refl _) .nil) (slices_Reverse_s0_ok hy102) (by kernel_rfl) (by kernel_rfl) (by kernel_rfl) ?_
      refine RJ.end (by kernel_rfl) ?_
      refine PJ.next ?_
      refine K.seq (by kernel_rfl) ?_
      refine K.region (by kernel_rfl) ?_
      refine RJ.seg 2 [4] (L2 := [(4, .vc 0)]) (H2 := [vecL (encI .u8) 1 5 y101]) (by kernel_rfl) ?_
      refine RJ.end (by kernel_rfl) ?_
      refine PJ.next ?_
      refine K.ret (by kernel_rfl) ?_
      obtain rfl := Option.some.inj h103
      refine PJ.wk (Wk.freeze 0 (n := y101.length) (k := 1) (e := 5) (cs := y101.flatMap (encI .u8)) (by kernel_rfl)) ?_
      exact K.ret0 (.inr rfl) hFn hFH hFD (by kernel_rfl) (by kernel_rfl) (by kernel_rfl)

def round_Inc (x0 : St23) (x1 : Int) (x2 : Int) (x3 : Int) : Option (St23 × Int) :=
  (Option.bind (Option.bind (Option.bind (round_Is x3) fun y65 => (bif (!y65) then (some true) else (Option.bind (round_unit x1 x2) fun y71 => (bif (!y71) then (some true) else (Option.bind (dec_Right x0) fun y77 => (some (!y77))))))) fun (s60 : Bool) => (bif s60 then (some (.inr ((⟨false, ([] : List Int), 0⟩ : St23), 1))) else (some (.inl ())))) (joinX fun (s40 : Unit) => (Option.bind (round_split x0 x1 x2) fun y84 => (Option.bind (Option.bind (bif (decide (y84.2 = 0)) then (Option.bind (round_below x0 x2) fun y130 => (some (!y130))) else (some false)) fun (s122 : Bool) => (bif s122 then (Option.bind (dec_Norm x0.Neg_ x0.D_ x0.E_) fun y136 => (some (.inr (y136.1, y136.2)))) else (some (.inl ())))) (joinX fun (s111 : Unit) => (Option.bind (bif (decide ((y84.1.length : Int) > 0)) then (bif inR ((IntKind.wrap .i64 ((y84.1.length : Int) - 1))) y84.1.length then (bif inR ((IntKind.wrap .i64 ((y84.1.length : Int) - 1))) y84.1.length then (some ((decide (((Int.tmod ((nth y84.1 ((IntKind.wrap .i64 ((y84.1.length : Int) - 1))))) 2)) = 1)))) else none) else none) else (some false)) fun (s145 : Bool) => (Option.bind (round_middle x0 y84.2 x1 x2) fun y155 => (Option.bind (Option.bind (round_ways_s0 (⟨x0.Neg_, s145, y155⟩ : St57)) fun y270 => (bif (decide (x3 = 0)) then (Option.bind round_ways_2 fun y277 => (bif y277 then (Option.bind (round_next y84.1) fun y283 => (some y283)) else (some y84.1))) else (bif (decide (x3 = 1)) then (Option.bind round_ways_3 fun y290 => (bif y290 then (Option.bind (round_next y84.1) fun y296 => (some y296)) else (some y84.1))) else (bif (decide (x3 = 2)) then (Option.bind (round_ways_4_s0 ((⟨x0.Neg_, s145, y155⟩ : St57).neg_) ((⟨x0.Neg_, s145, y155⟩ : St57).odd_) ((⟨x0.Neg_, s145, y155⟩ : St57).half_)) fun y303 => (bif y303 then (Option.bind (round_next y84.1) fun y309 => (some y309)) else (some y84.1))) else (bif (decide (x3 = 3)) then (Option.bind (round_ways_5_s0 ((⟨x0.Neg_, s145, y155⟩ : St57).neg_) ((⟨x0.Neg_, s145, y155⟩ : St57).odd_) ((⟨x0.Neg_, s145, y155⟩ : St57).half_)) fun y316 => (bif y316 then (Option.bind (round_next y84.1) fun y322 => (some y322)) else (some y84.1))) else (bif (decide (x3 = 4)) then (Option.bind (round_ways_6_s0 ((⟨x0.Neg_, s145, y155⟩ : St57).neg_) ((⟨x0.Neg_, s145, y155⟩ : St57).odd_) ((⟨x0.Neg_, s145, y155⟩ : St57).half_)) fun y329 => (bif y329 then (Option.bind (round_next y84.1) fun y335 => (some y335)) else (some y84.1))) else (bif (decide (x3 = 5)) then (Option.bind (round_ways_7_s0 ((⟨x0.Neg_, s145, y155⟩ : St57).neg_) ((⟨x0.Neg_, s145, y155⟩ : St57).odd_) ((⟨x0.Neg_, s145, y155⟩ : St57).half_)) fun y342 => (bif y342 then (Option.bind (round_next y84.1) fun y348 => (some y348)) else (some y84.1))) else (bif (decide (x3 = 6)) then (Option.bind (round_ways_8_s0 ((⟨x0.Neg_, s145, y155⟩ : St57).neg_) ((⟨x0.Neg_, s145, y155⟩ : St57).odd_) ((⟨x0.Neg_, s145, y155⟩ : St57).half_)) fun y355 => (bif y355 then (Option.bind (round_next y84.1) fun y361 => (some y361)) else (some y84.1))) else (bif (decide (x3 = 7)) then (Option.bind (round_ways_9_s0 ((⟨x0.Neg_, s145, y155⟩ : St57).neg_) ((⟨x0.Neg_, s145, y155⟩ : St57).odd_) ((⟨x0.Neg_, s145, y155⟩ : St57).half_)) fun y368 => (bif y368 then (Option.bind (round_next y84.1) fun y374 => (some y374)) else (some y84.1))) else none))))))))) fun (s265 : (List Int)) => (Option.bind (round_times s265 x1) fun y377 => (Option.bind (dec_Norm x0.Neg_ y377 x2) fun y380 => (some (y380.1, y380.2))))))))))))
theorem round_Inc_ok {x0 : St23} {x1 : Int} {x2 : Int} {x3 : Int} {r : St23 × Int} (h : round_Inc x0 x1 x2 x3 = some r) : SC Try.prog 12 [.agg [.bool x0.Neg_, lsv (encI .u8) 1 x0.D_, .int .i64 x0.E_], .int .i64 x1, .int .i64 x2, .int .i64 x3] [] (.tup [.agg [.bool r.1.Neg_, lsv (encI .u8) 1 r.1.D_, .int .i64 r.1.E_], .int .i64 r.2]) [] := by
  refine K.fn (fn := Try.f12) (by kernel_rfl) (by kernel_rfl) (by kernel_rfl) (by kernel_rfl) (by kernel_rfl) (fun F hFn hFH hFD => ?_)
  unfold round_Inc at h
  refine K.seq (by kernel_rfl) ?_
  refine K.region (by kernel_rfl) ?_
  refine RJ.seg 3 [1, 2, 3, 4, 8, 9] (L2 := [(1, .int .i64 x1), (2, .int .i64 x2), (3, .int .i64 x3), (4, .ptr 0 0), (8, .ptr 1 0), (9, .int .i64 0)]) (H2 := [.box [.bool x0.Neg_, lsv (encI .u8) 1 x0.D_, .int .i64 x0.E_], .box [.bool false, .nl, .int .i64 0]]) (by kernel_rfl) ?_
  refine RJ.end (by kernel_rfl) ?_
  refine PJ.next ?_
  obtain ⟨y41, hy42, h43⟩ := bindS h
  refine K.cutX (by kernel_rfl) (fun (s40 : Unit) => ([(1, .int .i64 x1), (2, .int .i64 x2), (3, .int .i64 x3), (4, .ptr 0 0), (8, .ptr 1 0), (9, .int .i64 0)], [.box [.bool x0.Neg_, lsv (encI .u8) 1 x0.D_, .int .i64 x0.E_], .box [.bool false, .nl, .int .i64 0]])) y41 ?_ (fun s40 hs => ?_)
  · obtain ⟨s60, hy62, h64⟩ := bindS hy42
    refine K.cutN (by kernel_rfl) (fun (s60 : Bool) => ([(1, .int .i64 x1), (2, .int .i64 x2), (3, .int .i64 x3), (4, .ptr 0 0), (8, .ptr 1 0), (9, .int .i64 0), (27, .bool s60)], [.box [.bool x0.Neg_, lsv (encI .u8) 1 x0.D_, .int .i64 x0.E_], .box [.bool false, .nl, .int .i64 0]])) s60 ?_ ?_
    · refine K.region (by kernel_rfl) ?_
      refine RJ.seg 1 [1, 2, 3, 4, 8, 9, 14] (L2 := [(1, .int .i64 x1), (2, .int .i64 x2), (3, .int .i64 x3), (4, .ptr 0 0), (8, .ptr 1 0), (9, .int .i64 0), (14, .int .i64 x3)]) (H2 := [.box [.bool x0.Neg_, lsv (encI .u8) 1 x0.D_, .int .i64 x0.E_], .box [.bool false, .nl, .int .i64 0]]) (by kernel_rfl) ?_
      obtain ⟨y65, hy66, h67⟩ := bindS hy62
      refine RJ.call0 (d := (some 15)) (f := 23) (args := [.int .i64 x3]) (v := .bool y65) (tr2 := []) (by kernel_rfl) (by kernel_rfl) (.cons (Le.refl _) .nil) (round_Is_ok hy66) (by kernel_rfl) ?_
      refine RJ.seg 2 [1, 2, 3, 4, 8, 9, 17] (L2 := [(1, .int .i64 x1), (2, .int .i64 x2), (3, .int .i64 x3), (4, .ptr 0 0), (8, .ptr 1 0), (9, .int .i64 0), (17, .bool (!y65))]) (H2 := [.box [.bool x0.Neg_, lsv (encI .u8) 1 x0.D_, .int .i64 x0.E_], .box [.bool false, .nl, .int .i64 0]]) (by kernel_rfl) ?_
      refine RJ.caseB 17 (b := (!y65)) (by kernel_rfl) (fun hb68 => ?_) (fun hb68 => ?_)
      · have h69 := condT hb68 h67
        refine RJ.seg 10 [1, 2, 3, 4, 8, 9, 27] (L2 := [(1, .int .i64 x1), (2, .int .i64 x2), (3, .int .i64 x3), (4, .ptr 0 0), (8, .ptr 1 0), (9, .int .i64 0), (27, .bool true)]) (H2 := [.box [.bool x0.Neg_, lsv (encI .u8) 1 x0.D_, .int .i64 x0.E_], .box [.bool false, .nl, .int .i64 0]]) (by kernel_rfl) ?_
        refine RJ.end (by kernel_rfl) ?_
        obtain rfl := Option.some.inj h69
        exact PJ.cutN [1, 2, 3, 4, 8, 9, 27] (by kernel_rfl) (by kernel_rfl)
      · have h70 := condF hb68 h67
        refine RJ.seg 2 [1, 2, 3, 4, 8, 9, 17, 18, 19] (L2 := [(1, .int .i64 x1), (2, .int .i64 x2), (3, .int .i64 x3), (4, .ptr 0 0), (8, .ptr 1 0), (9, .int .i64 0), (17, .bool false), (18, .int .i64 x1), (19, .int .i64 x2)]) (H2 := [.box [.bool x0.Neg_, lsv (encI .u8) 1 x0.D_, .int .i64 x0.E_], .box [.bool false, .nl, .int .i64 0]]) (by kernel_rfl) ?_
        obtain ⟨y71, hy72, h73⟩ := bindS h70
        refine RJ.call0 (d := (some 20)) (f := 24) (args := [.int .i64 x1, .int .i64 x2]) (v := .bool y71) (tr2 := []) (by kernel_rfl) (by kernel_rfl) (.cons (Le.refl _) (.cons (Le.refl _) .nil)) (round_unit_ok hy72) (by kernel_rfl) ?_
        refine RJ.seg 3 [1, 2, 3, 4, 8, 9, 23] (L2 := [(1, .int .i64 x1), (2, .int .i64 x2), (3, .int .i64 x3), (4, .ptr 0 0), (8, .ptr 1 0), (9, .int .i64 0), (23, .bool (!y71))]) (H2 := [.box [.bool x0.Neg_, lsv (encI .u8) 1 x0.D_, .int .i64 x0.E_], .box [.bool false, .nl, .int .i64 0]]) (by kernel_rfl) ?_
        refine RJ.caseB 23 (b := (!y71)) (by kernel_rfl) (fun hb74 => ?_) (fun hb74 => ?_)
        · have h75 := condT hb74 h73
          refine RJ.seg 4 [1, 2, 3, 4, 8, 9, 27] (L2 := [(1, .int .i64 x1), (2, .int .i64 x2), (3, .int .i64 x3), (4, .ptr 0 0), (8, .ptr 1 0), (9, .int .i64 0), (27, .bool true)]) (H2 := [.box [.bool x0.Neg_, lsv (encI .u8) 1 x0.D_, .int .i64 x0.E_], .box [.bool false, .nl, .int .i64 0]]) (by kernel_rfl) ?_
          refine RJ.end (by kernel_rfl) ?_
          obtain rfl := Option.some.inj h75
          exact PJ.cutN [1, 2, 3, 4, 8, 9, 27] (by kernel_rfl) (by kernel_rfl)
        · have h76 := condF hb74 h73
          refine RJ.seg 1 [1, 2, 3, 4, 8, 9, 23, 24] (L2 := [(1, .int .i64 x1), (2, .int .i64 x2), (3, .int .i64 x3), (4, .ptr 0 0), (8, .ptr 1 0), (9, .int .i64 0), (23, .bool false), (24, .agg [.bool x0.Neg_, lsv (encI .u8) 1 x0.D_, .int .i64 x0.E_])]) (H2 := [.box [.bool x0.Neg_, lsv (encI .u8) 1 x0.D_, .int .i64 x0.E_], .box [.bool false, .nl, .int .i64 0]]) (by kernel_rfl) ?_
          obtain ⟨y77, hy78, h79⟩ := bindS h76
          refine RJ.call0 (d := (some 25)) (f := 25) (args := [.agg [.bool x0.Neg_, lsv (encI .u8) 1 x0.D_, .int .i64 x0.E_]]) (v := .bool y77) (tr2 := []) (by kernel_rfl) (by kernel_rfl) (.cons (Le.refl _) .nil) (dec_Right_ok hy78) (by kernel_rfl) ?_
          refine RJ.seg 2 [1, 2, 3, 4, 8, 9, 27] (L2 := [(1, .int .i64 x1), (2, .int .i64 x2), (3, .int .i64 x3), (4, .ptr 0 0), (8, .ptr 1 0), (9, .int .i64 0), (27, .bool (!y77))]) (H2 := [.box [.bool x0.Neg_, lsv (encI .u8) 1 x0.D_, .int .i64 x0.E_], .box [.bool false, .nl, .int .i64 0]]) (by kernel_rfl) ?_
          refine RJ.end (by kernel_rfl) ?_
          obtain rfl := Option.some.inj h79
          exact PJ.cutN [1, 2, 3, 4, 8, 9, 27] (by kernel_rfl) (by kernel_rfl)
    · refine J.caseB 27 (b := s60) (by kernel_rfl) (fun hb80 => ?_) (fun hb80 => ?_)
      · have h81 := condT hb80 h64
        refine K.condT (by kernel_rfl) ?_
        refine K.seq (by kernel_rfl) ?_
        refine K.region (by kernel_rfl) ?_
        refine RJ.seg 3 [1, 2, 3, 4, 8, 9] (L2 := [(1, .int .i64 x1), (2, .int .i64 x2), (3, .int .i64 x3), (4, .ptr 0 0), (8, .ptr 1 0), (9, .int .i64 1)]) (H2 := [.box [.bool x0.Neg_, lsv (encI .u8) 1 x0.D_, .int .i64 x0.E_], .box [.bool false, .nl, .int .i64 0]]) (by kernel_rfl) ?_
        refine RJ.end (by kernel_rfl) ?_
        refine PJ.next ?_
        refine K.ret (by kernel_rfl) ?_
        obtain rfl := Option.some.inj h81
        have h83 := joinX_inr h43
        refine PJ.cutXr (fun e => nomatch e) ?_
        obtain rfl := Option.some.inj h83
        refine PJ.res (v1 := .tup [.agg [.bool false, .nl, .int .i64 0], .int .i64 1]) (Le.tup (.cons (Le.agg (.cons (Le.refl _) (.cons (Le.nl _) (.cons (Le.refl _) .nil)))) (.cons (Le.refl _) .nil))) ?_
        exact K.ret0 (.inr rfl) hFn hFH hFD (by kernel_rfl) (by kernel_rfl) (by kernel_rfl)
      · have h82 := condF hb80 h64
        refine K.condF (by kernel_rfl) ?_
        refine K.skip (by kernel_rfl) ?_
        obtain rfl := Option.some.inj h82
        exact PJ.cutXl [1, 2, 3, 4, 8, 9] (by kernel_rfl) (by kernel_rfl)
  · subst hs
    have h44 := joinX_inl h43
    refine K.seq (by kernel_rfl) ?_
    refine K.region (by kernel_rfl) ?_
    refine RJ.seg 3 [1, 2, 3, 4, 8, 9, 30, 31, 32] (L2 := [(1, .int .i64 x1), (2, .int .i64 x2), (3, .int .i64 x3), (4, .ptr 0 0), (8, .ptr 1 0), (9, .int .i64 0), (30, .agg [.bool x0.Neg_, lsv (encI .u8) 1 x0.D_, .int .i64 x0.E_]), (31, .int .i64 x1), (32, .int .i64 x2)]) (H2 := [.box [.bool x0.Neg_, lsv (encI .u8) 1 x0.D_, .int .i64 x0.E_], .box [.bool false, .nl, .int .i64 0]]) (by kernel_rfl) ?_
    obtain ⟨y84, hy85, h86⟩ := bindS h44
    refine RJ.callG (d := (some 33)) (f := 26) (args := [.agg [.bool x0.Neg_, lsv (encI .u8) 1 x0.D_, .int .i64 x0.E_], .int .i64 x1, .int .i64 x2]) (args0 := [.agg [.bool x0.Neg_, lsv (encI .u8) 1 x0.D_, .int .i64 x0.E_], .int .i64 x1, .int .i64 x2]) (v0 := .tup [.vc 0, .int .i64 y84.2]) (v := .tup [.vc 2, .int .i64 y84.2]) (tr2 := []) (H0 := []) (H0' := [vecL (encI .u8) 1 5 y84.1]) (H2 := [.box [.bool x0.Neg_, lsv (encI .u8) 1 x0.D_, .int .i64 x0.E_], .box [.bool false, .nl, .int .i64 0], vecL (encI .u8) 1 5 y84.1]) [] (by kernel_rfl) (by kernel_rfl) (by kernel_rfl) (by kernel_rfl) (by decide) (by kernel_rfl) (by kernel_rfl) (by kernel_rfl) (.cons (Le.refl _) (.cons (Le.refl _) (.cons (Le.refl _) .nil))) (round_split_ok_o hy85) (by kernel_rfl) (by kernel_rfl) (by kernel_rfl) ?_
    refine RJ.seg 5 [1, 2, 3, 4, 8, 9, 10, 11] (L2 := [(1, .int .i64 x1), (2, .int .i64 x2), (3, .int .i64 x3), (4, .ptr 0 0), (8, .ptr 1 0), (9, .int .i64 0), (10, .vc 2), (11, .int .i64 y84.2)]) (H2 := [.box [.bool x0.Neg_, lsv (encI .u8) 1 x0.D_, .int .i64 x0.E_], .box [.bool false, .nl, .int .i64 0], vecL (encI .u8) 1 5 y84.1]) (by kernel_rfl) ?_
    refine RJ.end (by kernel_rfl) ?_
    refine PJ.next ?_
    obtain ⟨y112, hy113, h114⟩ := bindS h86
    refine K.cutX (by kernel_rfl) (fun (s111 : Unit) => ([(1, .int .i64 x1), (2, .int .i64 x2), (3, .int .i64 x3), (4, .ptr 0 0), (8, .ptr 1 0), (9, .int .i64 0), (10, .vc 2), (11, .int .i64 y84.2)], [.box [.bool x0.Neg_, lsv (encI .u8) 1 x0.D_, .int .i64 x0.E_], .box [.bool false, .nl, .int .i64 0], vecL (encI .u8) 1 5 y84.1])) y112 ?_ (fun s111 hs => ?_)
    · obtain ⟨s122, hy124, h126⟩ := bindS hy113
      refine K.cutN (by kernel_rfl) (fun (s122 : Bool) => ([(1, .int .i64 x1), (2, .int .i64 x2), (3, .int .i64 x3), (4, .ptr 0 0), (8, .ptr 1 0), (9, .int .i64 0), (10, .vc 2), (11, .int .i64 y84.2), (43, .bool s122)], [.box [.bool x0.Neg_, lsv (encI .u8) 1 x0.D_, .int .i64 x0.E_], .box [.bool false, .nl, .int .i64 0], vecL (encI .u8) 1 5 y84.1])) s122 ?_ ?_
      · refine K.region (by kernel_rfl) ?_
        refine RJ.seg 3 [1, 2, 3, 4, 8, 9, 10, 11, 38] (L2 := [(1, .int .i64 x1), (2, .int .i64 x2), (3, .int .i64 x3), (4, .ptr 0 0), (8, .ptr 1 0), (9, .int .i64 0), (10, .vc 2), (11, .int .i64 y84.2), (38, .bool (decide (y84.2 = 0)))]) (H2 := [.box [.bool x0.Neg_, lsv (encI .u8) 1 x0.D_, .int .i64 x0.E_], .box [.bool false, .nl, .int .i64 0], vecL (encI .u8) 1 5 y84.1]) (by kernel_rfl) ?_
        refine RJ.caseB 38 (b := (decide (y84.2 = 0))) (by kernel_rfl) (fun hb127 => ?_) (fun hb127 => ?_)
        · have h128 := condT hb127 hy124
          refine RJ.seg 2 [1, 2, 3, 4, 8, 9, 10, 11, 38, 39, 40] (L2 := [(1, .int .i64 x1), (2, .int .i64 x2), (3, .int .i64 x3), (4, .ptr 0 0), (8, .ptr 1 0), (9, .int .i64 0), (10, .vc 2), (11, .int .i64 y84.2), (38, .bool true), (39, .agg [.bool x0.Neg_, lsv (encI .u8) 1 x0.D_, .int .i64 x0.E_]), (40, .int .i64 x2)]) (H2 := [.box [.bool x0.Neg_, lsv (encI .u8) 1 x0.D_, .int .i64 x0.E_], .box [.bool false, .nl, .int .i64 0], vecL (encI .u8) 1 5 y84.1]) (by kernel_rfl) ?_
          obtain ⟨y130, hy131, h132⟩ := bindS h128
          refine RJ.call0 (d := (some 41)) (f := 27) (args := [.agg [.bool x0.Neg_, lsv (encI .u8) 1 x0.D_, .int .i64 x0.E_], .int .i64 x2]) (v := .bool y130) (tr2 := []) (by kernel_rfl) (by kernel_rfl) (.cons (Le.refl _) (.cons (Le.refl _) .nil)) (round_below_ok hy131) (by kernel_rfl) ?_
          refine RJ.seg 2 [1, 2, 3, 4, 8, 9, 10, 11, 43] (L2 := [(1, .int .i64 x1), (2, .int .i64 x2), (3, .int .i64 x3), (4, .ptr 0 0), (8, .ptr 1 0), (9, .int .i64 0), (10, .vc 2), (11, .int .i64 y84.2), (43, .bool (!y130))]) (H2 := [.box [.bool x0.Neg_, lsv (encI .u8) 1 x0.D_, .int .i64 x0.E_], .box [.bool false, .nl, .int .i64 0], vecL (encI .u8) 1 5 y84.1]) (by kernel_rfl) ?_
          refine RJ.end (by kernel_rfl) ?_
          obtain rfl := Option.some.inj h132
          exact PJ.cutN [1, 2, 3, 4, 8, 9, 10, 11, 43] (by kernel_rfl) (by kernel_rfl)
        · have h129 := condF hb127 hy124
          refine RJ.seg 5 [1, 2, 3, 4, 8, 9, 10, 11, 43] (L2 := [(1, .int .i64 x1), (2, .int .i64 x2), (3, .int .i64 x3), (4, .ptr 0 0), (8, .ptr 1 0), (9, .int .i64 0), (10, .vc 2), (11, .int .i64 y84.2), (43, .bool false)]) (H2 := [.box [.bool x0.Neg_, lsv (encI .u8) 1 x0.D_, .int .i64 x0.E_], .box [.bool false, .nl, .int .i64 0], vecL (encI .u8) 1 5 y84.1]) (by kernel_rfl) ?_
          refine RJ.end (by kernel_rfl) ?_
          obtain rfl := Option.some.inj h129
          exact PJ.cutN [1, 2, 3, 4, 8, 9, 10, 11, 43] (by kernel_rfl) (by kernel_rfl)
      · refine J.caseB 43 (b := s122) (by kernel_rfl) (fun hb133 => ?_) (fun hb133 => ?_)
        · have h134 := condT hb133 h126
          refine K.condT (by kernel_rfl) ?_
          refine K.seq (by kernel_rfl) ?_
          refine K.region (by kernel_rfl) ?_
          refine RJ.seg 6 [1, 2, 3, 4, 8, 9, 10, 11, 45, 47, 49] (L2 := [(1, .int .i64 x1), (2, .int .i64 x2), (3, .int .i64 x3), (4, .ptr 0 0), (8, .ptr 1 0), (9, .int .i64 0), (10, .vc 2), (11, .int .i64 y84.2), (45, .bool x0.Neg_), (47, lsv (encI .u8) 1 x0.D_), (49, .int .i64 x0.E_)]) (H2 := [.box [.bool x0.Neg_, lsv (encI .u8) 1 x0.D_, .int .i64 x0.E_], .box [.bool false, .nl, .int .i64 0], vecL (encI .u8) 1 5 y84.1]) (by kernel_rfl) ?_
          obtain ⟨y136, hy137, h138⟩ := bindS h134
          refine RJ.call0 (d := (some 50)) (f := 28) (args := [.bool x0.Neg_, lsv (encI .u8) 1 x0.D_, .int .i64 x0.E_]) (v := .tup [.agg [.bool y136.1.Neg_, lsv (encI .u8) 1 y136.1.D_, .int .i64 y136.1.E_], .int .i64 y136.2]) (tr2 := []) (by kernel_rfl) (by kernel_rfl) (.cons (Le.refl _) (.cons (Le.refl _) (.cons (Le.refl _) .nil))) (dec_Norm_ok hy137) (by kernel_rfl) ?_
          refine RJ.seg 4 [1, 2, 3, 4, 8, 9, 10, 11] (L2 := [(1, .int .i64 x1), (2, .int .i64 x2), (3, .int .i64 x3), (4, .ptr 0 0), (8, .ptr 1 0), (9, .int .i64 y136.2), (10, .vc 2), (11, .int .i64 y84.2)]) (H2 := [.box [.bool x0.Neg_, lsv (encI .u8) 1 x0.D_, .int .i64 x0.E_], .box [.bool y136.1.Neg_, lsv (encI .u8) 1 y136.1.D_, .int .i64 y136.1.E_], vecL (encI .u8) 1 5 y84.1]) (by kernel_rfl) ?_
          refine RJ.end (by kernel_rfl) ?_
          refine PJ.next ?_
          refine K.ret (by kernel_rfl) ?_
          obtain rfl := Option.some.inj h138
          have h139 := joinX_inr h114
          refine PJ.cutXr (fun e => nomatch e) ?_
          obtain rfl := Option.some.inj h139
          exact K.ret0 (.inr rfl) hFn hFH hFD (by kernel_rfl) (by kernel_rfl) (by kernel_rfl)
        · have h135 := condF hb133 h126
          refine K.condF (by kernel_rfl) ?_
          refine K.skip (by kernel_rfl) ?_
          obtain rfl := Option.some.inj h135
          exact PJ.cutXl [1, 2, 3, 4, 8, 9, 10, 11] (by kernel_rfl) (by kernel_rfl)
    · subst hs
      have h115 := joinX_inl h114
      obtain ⟨s145, hy147, h149⟩ := bindS h115
      refine K.cutN (by kernel_rfl) (fun (s145 : Bool) => ([(1, .int .i64 x1), (2, .int .i64 x2), (3, .int .i64 x3), (4, .ptr 0 0), (8, .ptr 1 0), (9, .int .i64 0), (10, .vc 2), (11, .int .i64 y84.2), (12, .bool s145)], [.box [.bool x0.Neg_, lsv (encI .u8) 1 x0.D_, .int .i64 x0.E_], .box [.bool false, .nl, .int .i64 0], vecL (encI .u8) 1 5 y84.1])) s145 ?_ ?_
      · refine K.region (by kernel_rfl) ?_
        refine RJ.seg 4 [1, 2, 3, 4, 8, 9, 10, 11, 56] (L2 := [(1, .int .i64 x1), (2, .int .i64 x2), (3, .int .i64 x3), (4, .ptr 0 0), (8, .ptr 1 0), (9, .int .i64 0), (10, .vc 2), (11, .int .i64 y84.2), (56, .bool ((decide ((y84.1.length : Int) > 0))))]) (H2 := [.box [.bool x0.Neg_, lsv (encI .u8) 1 x0.D_, .int .i64 x0.E_], .box [.bool false, .nl, .int .i64 0], vecL (encI .u8) 1 5 y84.1]) (by kernel_rfl) ?_
        refine RJ.caseB 56 (b := (decide ((y84.1.length : Int) > 0))) (by kernel_rfl) (fun hb150 => ?_) (fun hb150 => ?_)
        · have h151 := condT hb150 hy147
          refine RJ.seg 4 [1, 2, 3, 4, 8, 9, 10, 11, 56, 57, 60] (L2 := [(1, .int .i64 x1), (2, .int .i64 x2), (3, .int .i64 x3), (4, .ptr 0 0), (8, .ptr 1 0), (9, .int .i64 0), (10, .vc 2), (11, .int .i64 y84.2), (56, .bool true), (57, .vc 2), (60, .int .i64 ((IntKind.wrap .i64 ((y84.1.length : Int) - 1))))]) (H2 := [.box [.bool x0.Neg_, lsv (encI .u8) 1 x0.D_, .int .i64 x0.E_], .box [.bool false, .nl, .int .i64 0], vecL (encI .u8) 1 5 y84.1]) (by kernel_rfl) ?_
          obtain ⟨hm, h153⟩ := asrt h151
          refine RJ.rel (d := (some 61)) (ef := ⟨.ptr 2 (((IntKind.wrap .i64 ((y84.1.length : Int) - 1)) : Int).toNat * 1), [2], []⟩) (ef' := ⟨.ptr 2 (((IntKind.wrap .i64 ((y84.1.length : Int) - 1)) : Int).toNat * 1), [2], []⟩) (c := inR ((IntKind.wrap .i64 ((y84.1.length : Int) - 1))) y84.1.length) (tr2 := []) (H2 := [.box [.bool x0.Neg_, lsv (encI .u8) 1 x0.D_, .int .i64 x0.E_], .box [.bool false, .nl, .int .i64 0], vecL (encI .u8) 1 5 y84.1]) (by kernel_rfl) hm (fun hc => rfl) (by kernel_rfl) ?_
          obtain ⟨hm, h154⟩ := asrt h153
          refine RJ.rel (d := (some 62)) (ef := ⟨(((y84.1).flatMap (encI .u8)).drop (((IntKind.wrap .i64 ((y84.1.length : Int) - 1)) : Int).toNat * 1)).headD .undef, [2], []⟩) (ef' := ⟨.int .u8 ((nth y84.1 ((IntKind.wrap .i64 ((y84.1.length : Int) - 1))))), [2], []⟩) (c := Nat.blt (((IntKind.wrap .i64 ((y84.1.length : Int) - 1)) : Int).toNat * 1) (y84.1.flatMap (encI .u8)).length) (tr2 := []) (H2 := [.box [.bool x0.Neg_, lsv (encI .u8) 1 x0.D_, .int .i64 x0.E_], .box [.bool false, .nl, .int .i64 0], vecL (encI .u8) 1 5 y84.1]) (by kernel_rfl) (loadv_ok (encI_len .u8) rfl hm) (fun hc => N.load1 (encI_len .u8) (fun _ => rfl) hm) (by kernel_rfl) ?_
          refine RJ.seg 4 [1, 2, 3, 4, 8, 9, 10, 11, 12] (L2 := [(1, .int .i64 x1), (2, .int .i64 x2), (3, .int .i64 x3), (4, .ptr 0 0), (8, .ptr 1 0), (9, .int .i64 0), (10, .vc 2), (11, .int .i64 y84.2), (12, .bool ((decide (((Int.tmod ((nth y84.1 ((IntKind.wrap .i64 ((y84.1.length : Int) - 1))))) 2)) = 1))))]) (H2 := [.box [.bool x0.Neg_, lsv (encI .u8) 1 x0.D_, .int .i64 x0.E_], .box [.bool false, .nl, .int .i64 0], vecL (encI .u8) 1 5 y84.1]) (by kernel_rfl) ?_
          refine RJ.end (by kernel_rfl) ?_
          obtain rfl := Option.some.inj h154
          exact PJ.cutN [1, 2, 3, 4, 8, 9, 10, 11, 12] (by kernel_rfl) (by kernel_rfl)
        · have h152 := condF hb150 hy147
          refine RJ.seg 10 [1, 2, 3, 4, 8, 9, 10, 11, 12] (L2 := [(1, .int .i64 x1), (2, .int .i64 x2), (3, .int .i64 x3), (4, .ptr 0 0), (8, .ptr 1 0), (9, .int .i64 0), (10, .vc 2), (11, .int .i64 y84.2), (12, .bool false)]) (H2 := [.box [.bool x0.Neg_, lsv (encI .u8) 1 x0.D_, .int .i64 x0.E_], .box [.bool false, .nl, .int .i64 0], vecL (encI .u8) 1 5 y84.1]) (by kernel_rfl) ?_
          refine RJ.end (by kernel_rfl) ?_
          obtain rfl := Option.some.inj h152
          exact PJ.cutN [1, 2, 3, 4, 8, 9, 10, 11, 12] (by kernel_rfl) (by kernel_rfl)
      · refine K.seq (by kernel_rfl) ?_
        refine J.keep [1, 2, 3, 4, 8, 9, 10, 11, 12] (L2 := [(1, .int .i64 x1), (2, .int .i64 x2), (3, .int .i64 x3), (4, .ptr 0 0), (8, .ptr 1 0), (9, .int .i64 0), (10, .vc 2), (11, .int .i64 y84.2), (12, .bool s145)]) (by kernel_rfl) ?_
        refine K.draw (by kernel_rfl) (by kernel_rfl) (by kernel_rfl) (H2 := [.box [.bool x0.Neg_, lsv (encI .u8) 1 x0.D_, .int .i64 x0.E_], .box [.bool false, .nl, .int .i64 0], vecL (encI .u8) 1 5 y84.1, .res, .res]) (by kernel_rfl) (n := 3) (by kernel_rfl) ?_
        refine RJ.segD 7 (tr2 := [([], []), ([0, 1], []), ([], []), ([0, 1], []), ([], []), ([], []), ([], [])]) (L2 := [(72, .int .i64 x2), (71, .int .i64 x1), (70, .int .i64 y84.2), (69, .agg [.bool x0.Neg_, lsv (encI .u8) 1 x0.D_, .int .i64 x0.E_]), (68, .bool s145), (67, .bool x0.Neg_), (66, .ptr 0 0), (1, .int .i64 x1), (2, .int .i64 x2), (3, .int .i64 x3), (4, .ptr 0 0), (8, .ptr 1 0), (9, .int .i64 0), (10, .vc 2), (11, .int .i64 y84.2), (12, .bool s145)]) (H2 := [.box [.bool x0.Neg_, lsv (encI .u8) 1 x0.D_, .int .i64 x0.E_], .box [.bool false, .nl, .int .i64 0], vecL (encI .u8) 1 5 y84.1, .res, .res]) (by kernel_rfl) ?_
        obtain ⟨y155, hy156, h157⟩ := bindS h149
        refine RJ.call0 (d := (some 73)) (f := 29) (args := [.agg [.bool x0.Neg_, lsv (encI .u8) 1 x0.D_, .int .i64 x0.E_], .int .i64 y84.2, .int .i64 x1, .int .i64 x2]) (v := .int .i64 y155) (tr2 := [([], []), ([0, 1], []), ([], []), ([0, 1], []), ([], []), ([], []), ([], []), ([], [6, 7])]) (by kernel_rfl) (by kernel_rfl) (.cons (Le.refl _) (.cons (Le.refl _) (.cons (Le.refl _) (.cons (Le.refl _) .nil)))) (round_middle_ok hy156) (by kernel_rfl) ?_
        refine RJ.segD 3 (tr2 := [([], []), ([0, 1], []), ([], []), ([0, 1], []), ([], []), ([], []), ([], []), ([], [6, 7]), ([], []), ([], [8, 9, 8, 9]), ([8, 9], [8])]) (L2 := [(13, .ptr 4 0), (74, .agg [.bool x0.Neg_, .bool s145, .int .i64 y155]), (73, .int .i64 y155), (72, .int .i64 x2), (71, .int .i64 x1), (70, .int .i64 y84.2), (69, .agg [.bool x0.Neg_, lsv (encI .u8) 1 x0.D_, .int .i64 x0.E_]), (68, .bool s145), (67, .bool x0.Neg_), (66, .ptr 0 0), (1, .int .i64 x1), (2, .int .i64 x2), (3, .int .i64 x3), (4, .ptr 0 0), (8, .ptr 1 0), (9, .int .i64 0), (10, .vc 2), (11, .int .i64 y84.2), (12, .bool s145)]) (H2 := [.box [.bool x0.Neg_, lsv (encI .u8) 1 x0.D_, .int .i64 x0.E_], .box [.bool false, .nl, .int .i64 0], vecL (encI .u8) 1 5 y84.1, .res, .box [.bool x0.Neg_, .bool s145, .int .i64 y155]]) (by kernel_rfl) ?_
        refine RJ.end (by kernel_rfl) ?_
        refine PJ.next ?_
        obtain ⟨s265, hy267, h269⟩ := bindS h157
        refine K.cutN (by kernel_rfl) (fun (s265 : (List Int)) => ([(1, .int .i64 x1), (2, .int .i64 x2), (4, .ptr 0 0), (8, .ptr 1 0), (9, .int .i64 0), (10, lsv (encI .u8) 1 s265)], [.box [.bool x0.Neg_, lsv (encI .u8) 1 x0.D_, .int .i64 x0.E_], .box [.bool false, .nl, .int .i64 0]])) s265 ?_ ?_
        · refine K.seq (by kernel_rfl) ?_
          refine K.region (by kernel_rfl) ?_
          refine RJ.seg 1 [1, 2, 3, 4, 8, 9, 10, 75] (L2 := [(1, .int .i64 x1), (2, .int .i64 x2), (3, .int .i64 x3), (4, .ptr 0 0), (8, .ptr 1 0), (9, .int .i64 0), (10, .vc 2), (75, .agg [.bool x0.Neg_, .bool s145, .int .i64 y155])]) (H2 := [.box [.bool x0.Neg_, lsv (encI .u8) 1 x0.D_, .int .i64 x0.E_], .box [.bool false, .nl, .int .i64 0], vecL (encI .u8) 1 5 y84.1, .res, .box [.bool x0.Neg_, .bool s145, .int .i64 y155]]) (by kernel_rfl) ?_
          obtain ⟨y270, hy271, h272⟩ := bindS hy267
          refine RJ.callG (d := (some 76)) (f := 30) (args := [.agg [.bool x0.Neg_, .bool s145, .int .i64 y155]]) (args0 := [.agg [.bool x0.Neg_, .bool s145, .int .i64 y155]]) (v0 := .mp 0) (v := .mp 5) (tr2 := []) (H0 := []) (H0' := [.map [(.int .i64 0, .fn (.func 41) [] []), (.int .i64 1, .fn (.func 42) [] []), (.int .i64 2, .fn (.func 43) [] [.ptr 1 0]), (.int .i64 3, .fn (.func 44) [] [.ptr 1 0]), (.int .i64 4, .fn (.func 45) [] [.ptr 2 0]), (.int .i64 5, .fn (.func 46) [] [.ptr 2 0]), (.int .i64 6, .fn (.func 47) [] [.ptr 2 0, .ptr 1 0]), (.int .i64 7, .fn (.func 48) [] [.ptr 2 0, .ptr 1 0])], .box [.bool ((⟨x0.Neg_, s145, y155⟩ : St57).neg_), .bool ((⟨x0.Neg_, s145, y155⟩ : St57).odd_), .int .i64 ((⟨x0.Neg_, s145, y155⟩ : St57).half_)], .box [.fn (.func 40) [] [.ptr 1 0]]]) (H2 := [.box [.bool x0.Neg_, lsv (encI .u8) 1 x0.D_, .int .i64 x0.E_], .box [.bool false, .nl, .int .i64 0], vecL (encI .u8) 1 5 y84.1, .res, .box [.bool x0.Neg_, .bool s145, .int .i64 y155], .map [(.int .i64 0, .fn (.func 41) [] []), (.int .i64 1, .fn (.func 42) [] []), (.int .i64 2, .fn (.func 43) [] [.ptr 6 0]), (.int .i64 3, .fn (.func 44) [] [.ptr 6 0]), (.int .i64 4, .fn (.func 45) [] [.ptr 7 0]), (.int .i64 5, .fn (.func 46) [] [.ptr 7 0]), (.int .i64 6, .fn (.func 47) [] [.ptr 7 0, .ptr 6 0]), (.int .i64 7, .fn (.func 48) [] [.ptr 7 0, .ptr 6 0])], .box [.bool ((⟨x0.Neg_, s145, y155⟩ : St57).neg_), .bool ((⟨x0.Neg_, s145, y155⟩ : St57).odd_), .int .i64 ((⟨x0.Neg_, s145, y155⟩ : St57).half_)], .box [.fn (.func 40) [] [.ptr 6 0]]]) [] (by kernel_rfl) (by kernel_rfl) (by kernel_rfl) (by kernel_rfl) (by decide) (by kernel_rfl) (by kernel_rfl) (by kernel_rfl) (.cons (Le.refl _) .nil) (round_ways_s0_ok hy271) (by kernel_rfl) (by kernel_rfl) (by kernel_rfl) ?_
          refine RJ.seg 1 [1, 2, 4, 8, 9, 10, 76, 77] (L2 := [(1, .int .i64 x1), (2, .int .i64 x2), (4, .ptr 0 0), (8, .ptr 1 0), (9, .int .i64 0), (10, .vc 2), (76, .mp 5), (77, .int .i64 x3)]) (H2 := [.box [.bool x0.Neg_, lsv (encI .u8) 1 x0.D_, .int .i64 x0.E_], .box [.bool false, .nl, .int .i64 0], vecL (encI .u8) 1 5 y84.1, .res, .box [.bool x0.Neg_, .bool s145, .int .i64 y155], .map [(.int .i64 0, .fn (.func 41) [] []), (.int .i64 1, .fn (.func 42) [] []), (.int .i64 2, .fn (.func 43) [] [.ptr 6 0]), (.int .i64 3, .fn (.func 44) [] [.ptr 6 0]), (.int .i64 4, .fn (.func 45) [] [.ptr 7 0]), (.int .i64 5, .fn (.func 46) [] [.ptr 7 0]), (.int .i64 6, .fn (.func 47) [] [.ptr 7 0, .ptr 6 0]), (.int .i64 7, .fn (.func 48) [] [.ptr 7 0, .ptr 6 0])], .box [.bool ((⟨x0.Neg_, s145, y155⟩ : St57).neg_), .bool ((⟨x0.Neg_, s145, y155⟩ : St57).odd_), .int .i64 ((⟨x0.Neg_, s145, y155⟩ : St57).half_)], .box [.fn (.func 40) [] [.ptr 6 0]]]) (by kernel_rfl) ?_
          cases hb273 : (decide (x3 = 0))
          · have h275 := condF hb273 h272
            have hn276 := of_decide_eq_false hb273
            cases hb286 : (decide (x3 = 1))
            · have h288 := condF hb286 h275
              have hn289 := of_decide_eq_false hb286
              cases hb299 : (decide (x3 = 2))
              · have h301 := condF hb299 h288
                have hn302 := of_decide_eq_false hb299
                cases hb312 : (decide (x3 = 3))
                · have h314 := condF hb312 h301
                  have hn315 := of_decide_eq_false hb312
                  cases hb325 : (decide (x3 = 4))
                  · have h327 := condF hb325 h314
                    have hn328 := of_decide_eq_false hb325
                    cases hb338 : (decide (x3 = 5))
                    · have h340 := condF hb338 h327
                      have hn341 := of_decide_eq_false hb338
                      cases hb351 : (decide (x3 = 6))
                      · have h353 := condF hb351 h340
                        have hn354 := of_decide_eq_false hb351
                        cases hb364 : (decide (x3 = 7))
                        · have h366 := condF hb364 h353
                          have hn367 := of_decide_eq_false hb364
                          refine RJ.look (none) (d := some 78) (ef := ⟨.undef, [5], []⟩) (c := missC (.int .i64 x3) [(.int .i64 0, .fn (.func 41) [] []), (.int .i64 1, .fn (.func 42) [] []), (.int .i64 2, .fn (.func 43) [] [.ptr 6 0]), (.int .i64 3, .fn (.func 44) [] [.ptr 6 0]), (.int .i64 4, .fn (.func 45) [] [.ptr 7 0]), (.int .i64 5, .fn (.func 46) [] [.ptr 7 0]), (.int .i64 6, .fn (.func 47) [] [.ptr 7 0, .ptr 6 0]), (.int .i64 7, .fn (.func 48) [] [.ptr 7 0, .ptr 6 0])]) (tr2 := []) (by kernel_rfl) (by simp [hitC, missC, sameB, sameE, hn276, hn289, hn302, hn315, hn328, hn341, hn354, hn367]) ?_
                          cases h366
                        · have h365 := condT hb364 h353
                          have hn367 := of_decide_eq_true hb364
                          refine RJ.look (some 7) (d := some 78) (ef := ⟨.fn (.func 48) [] [.ptr 7 0, .ptr 6 0], [5], []⟩) (c := hitC (.int .i64 x3) [(.int .i64 0, .fn (.func 41) [] []), (.int .i64 1, .fn (.func 42) [] []), (.int .i64 2, .fn (.func 43) [] [.ptr 6 0]), (.int .i64 3, .fn (.func 44) [] [.ptr 6 0]), (.int .i64 4, .fn (.func 45) [] [.ptr 7 0]), (.int .i64 5, .fn (.func 46) [] [.ptr 7 0]), (.int .i64 6, .fn (.func 47) [] [.ptr 7 0, .ptr 6 0]), (.int .i64 7, .fn (.func 48) [] [.ptr 7 0, .ptr 6 0])] 7) (tr2 := []) (by kernel_rfl) (by simp [hitC, missC, sameB, sameE, hn276, hn289, hn302, hn315, hn328, hn341, hn354, hn367]) ?_
                          obtain ⟨y368, hy369, h370⟩ := bindS h365
                          refine RJ.callG (d := (some 79)) (f := 48) (args := [.ptr 7 0, .ptr 6 0]) (args0 := [.ptr 0 0, .ptr 1 0]) (v0 := .bool y368) (v := .bool y368) (tr2 := []) (H0 := [.box [.fn (.func 40) [] [.ptr 1 0]], .box [.bool ((⟨x0.Neg_, s145, y155⟩ : St57).neg_), .bool ((⟨x0.Neg_, s145, y155⟩ : St57).odd_), .int .i64 ((⟨x0.Neg_, s145, y155⟩ : St57).half_)]]) (H0' := [.box [.fn (.func 40) [] [.ptr 1 0]], .box [.bool ((⟨x0.Neg_, s145, y155⟩ : St57).neg_), .bool ((⟨x0.Neg_, s145, y155⟩ : St57).odd_), .int .i64 ((⟨x0.Neg_, s145, y155⟩ : St57).half_)]]) (H2 := [.box [.bool x0.Neg_, lsv (encI .u8) 1 x0.D_, .int .i64 x0.E_], .box [.bool false, .nl, .int .i64 0], vecL (encI .u8) 1 5 y84.1, .res, .box [.bool x0.Neg_, .bool s145, .int .i64 y155], .map [(.int .i64 0, .fn (.func 41) [] []), (.int .i64 1, .fn (.func 42) [] []), (.int .i64 2, .fn (.func 43) [] [.ptr 6 0]), (.int .i64 3, .fn (.func 44) [] [.ptr 6 0]), (.int .i64 4, .fn (.func 45) [] [.ptr 7 0]), (.int .i64 5, .fn (.func 46) [] [.ptr 7 0]), (.int .i64 6, .fn (.func 47) [] [.ptr 7 0, .ptr 6 0]), (.int .i64 7, .fn (.func 48) [] [.ptr 7 0, .ptr 6 0])], .box [.bool ((⟨x0.Neg_, s145, y155⟩ : St57).neg_), .bool ((⟨x0.Neg_, s145, y155⟩ : St57).odd_), .int .i64 ((⟨x0.Neg_, s145, y155⟩ : St57).half_)], .box [.fn (.func 40) [] [.ptr 6 0]]]) [7, 6] (by kernel_rfl) (by kernel_rfl) (by kernel_rfl) (by kernel_rfl) (by decide) (by kernel_rfl) (by kernel_rfl) (by kernel_rfl) (.cons (Le.refl _) (.cons (Le.refl _) .nil)) (round_ways_9_s0_ok hy369) (by kernel_rfl) (by kernel_rfl) (by kernel_rfl) ?_
                          refine RJ.end (by kernel_rfl) ?_
                          refine PJ.next ?_
                          refine J.caseB 79 (b := y368) (by kernel_rfl) (fun hb371 => ?_) (fun hb371 => ?_)
                          · have h372 := condT hb371 h370
                            refine K.condT (by kernel_rfl) ?_
                            refine K.region (by kernel_rfl) ?_
                            refine RJ.seg 1 [1, 2, 4, 8, 9, 10, 80] (L2 := [(1, .int .i64 x1), (2, .int .i64 x2), (4, .ptr 0 0), (8, .ptr 1 0), (9, .int .i64 0), (10, .vc 2), (80, .vc 2)]) (H2 := [.box [.bool x0.Neg_, lsv (encI .u8) 1 x0.D_, .int .i64 x0.E_], .box [.bool false, .nl, .int .i64 0], vecL (encI .u8) 1 5 y84.1, .res, .box [.bool x0.Neg_, .bool s145, .int .i64 y155], .map [(.int .i64 0, .fn (.func 41) [] []), (.int .i64 1, .fn (.func 42) [] []), (.int .i64 2, .fn (.func 43) [] [.ptr 6 0]), (.int .i64 3, .fn (.func 44) [] [.ptr 6 0]), (.int .i64 4, .fn (.func 45) [] [.ptr 7 0]), (.int .i64 5, .fn (.func 46) [] [.ptr 7 0]), (.int .i64 6, .fn (.func 47) [] [.ptr 7 0, .ptr 6 0]), (.int .i64 7, .fn (.func 48) [] [.ptr 7 0, .ptr 6 0])], .box [.bool ((⟨x0.Neg_, s145, y155⟩ : St57).neg_), .bool ((⟨x0.Neg_, s145, y155⟩ : St57).odd_), .int .i64 ((⟨x0.Neg_, s145, y155⟩ : St57).half_)], .box [.fn (.func 40) [] [.ptr 6 0]]]) (by kernel_rfl) ?_
                            obtain ⟨y374, hy375, h376⟩ := bindS h372
                            refine RJ.callG (d := (some 81)) (f := 31) (args := [.vc 2]) (args0 := [.vc 0]) (v0 := lsv (encI .u8) 1 y374) (v := lsv (encI .u8) 1 y374) (tr2 := []) (H0 := [vecL (encI .u8) 1 5 y84.1]) (H0' := [.gone]) (H2 := [.box [.bool x0.Neg_, lsv (encI .u8) 1 x0.D_, .int .i64 x0.E_], .box [.bool false, .nl, .int .i64 0], .gone, .res, .box [.bool x0.Neg_, .bool s145, .int .i64 y155], .map [(.int .i64 0, .fn (.func 41) [] []), (.int .i64 1, .fn (.func 42) [] []), (.int .i64 2, .fn (.func 43) [] [.ptr 6 0]), (.int .i64 3, .fn (.func 44) [] [.ptr 6 0]), (.int .i64 4, .fn (.func 45) [] [.ptr 7 0]), (.int .i64 5, .fn (.func 46) [] [.ptr 7 0]), (.int .i64 6, .fn (.func 47) [] [.ptr 7 0, .ptr 6 0]), (.int .i64 7, .fn (.func 48) [] [.ptr 7 0, .ptr 6 0])], .box [.bool ((⟨x0.Neg_, s145, y155⟩ : St57).neg_), .bool ((⟨x0.Neg_, s145, y155⟩ : St57).odd_), .int .i64 ((⟨x0.Neg_, s145, y155⟩ : St57).half_)], .box [.fn (.func 40) [] [.ptr 6 0]]]) [2] (by kernel_rfl) (by kernel_rfl) (by kernel_rfl) (by kernel_rfl) (by decide) (by kernel_rfl) (by kernel_rfl) (by kernel_rfl) (.cons (Le.refl _) .nil) (round_next_ok_0 hy375) (by kernel_rfl) (by kernel_rfl) (by kernel_rfl) ?_
                            refine RJ.seg 1 [1, 2, 4, 8, 9, 10] (L2 := [(1, .int .i64 x1), (2, .int .i64 x2), (4, .ptr 0 0), (8, .ptr 1 0), (9, .int .i64 0), (10, lsv (encI .u8) 1 y374)]) (H2 := [.box [.bool x0.Neg_, lsv (encI .u8) 1 x0.D_, .int .i64 x0.E_], .box [.bool false, .nl, .int .i64 0], .gone, .res, .box [.bool x0.Neg_, .bool s145, .int .i64 y155], .map [(.int .i64 0, .fn (.func 41) [] []), (.int .i64 1, .fn (.func 42) [] []), (.int .i64 2, .fn (.func 43) [] [.ptr 6 0]), (.int .i64 3, .fn (.func 44) [] [.ptr 6 0]), (.int .i64 4, .fn (.func 45) [] [.ptr 7 0]), (.int .i64 5, .fn (.func 46) [] [.ptr 7 0]), (.int .i64 6, .fn (.func 47) [] [.ptr 7 0, .ptr 6 0]), (.int .i64 7, .fn (.func 48) [] [.ptr 7 0, .ptr 6 0])], .box [.bool ((⟨x0.Neg_, s145, y155⟩ : St57).neg_), .bool ((⟨x0.Neg_, s145, y155⟩ : St57).odd_), .int .i64 ((⟨x0.Neg_, s145, y155⟩ : St57).half_)], .box [.fn (.func 40) [] [.ptr 6 0]]]) (by kernel_rfl) ?_
                            refine RJ.end (by kernel_rfl) ?_
                            obtain rfl := Option.some.inj h376
                            refine PJ.wk (Wk.sel (L2 := [(1, .int .i64 x1), (2, .int .i64 x2), (4, .ptr 0 0), (8, .ptr 1 0), (9, .int .i64 0), (10, lsv (encI .u8) 1 y374)]) (H2 := [.box [.bool x0.Neg_, lsv (encI .u8) 1 x0.D_, .int .i64 x0.E_], .box [.bool false, .nl, .int .i64 0]]) 0 (by rw [hFH]; rfl) hFD [0, 1] (by kernel_rfl) (by kernel_rfl) (by decide) (by kernel_rfl) (by kernel_rfl) (by kernel_rfl) (by kernel_rfl)) ?_
                            exact PJ.cutN [1, 2, 4, 8, 9, 10] (by kernel_rfl) (by kernel_rfl)
                          · have h373 := condF hb371 h370
                            refine K.condF (by kernel_rfl) ?_
                            refine K.skip (by kernel_rfl) ?_
                            obtain rfl := Option.some.inj h373
                            refine PJ.wk (Wk.freeze 2 (n := y84.1.length) (k := 1) (e := 5) (cs := y84.1.flatMap (encI .u8)) (by kernel_rfl)) ?_
                            refine PJ.wk (Wk.sel (L2 := [(1, .int .i64 x1), (2, .int .i64 x2), (4, .ptr 0 0), (8, .ptr 1 0), (9, .int .i64 0), (10, lsv (encI .u8) 1 y84.1)]) (H2 := [.box [.bool x0.Neg_, lsv (encI .u8) 1 x0.D_, .int .i64 x0.E_], .box [.bool false, .nl, .int .i64 0]]) 0 (by rw [hFH]; rfl) hFD [0, 1] (by kernel_rfl) (by kernel_rfl) (by decide) (by kernel_rfl) (by kernel_rfl) (by kernel_rfl) (by kernel_rfl)) ?_
                            exact PJ.cutN [1, 2, 4, 8, 9, 10] (by kernel_rfl) (by kernel_rfl)
                      · have h352 := condT hb351 h340
                        have hn354 := of_decide_eq_true hb351
                        refine RJ.look (some 6) (d := some 78) (ef := ⟨.fn (.func 47) [] [.ptr 7 0, .ptr 6 0], [5], []⟩) (c := hitC (.int .i64 x3) [(.int .i64 0, .fn (.func 41) [] []), (.int .i64 1, .fn (.func 42) [] []), (.int .i64 2, .fn (.func 43) [] [.ptr 6 0]), (.int .i64 3, .fn (.func 44) [] [.ptr 6 0]), (.int .i64 4, .fn (.func 45) [] [.ptr 7 0]), (.int .i64 5, .fn (.func 46) [] [.ptr 7 0]), (.int .i64 6, .fn (.func 47) [] [.ptr 7 0, .ptr 6 0]), (.int .i64 7, .fn (.func 48) [] [.ptr 7 0, .ptr 6 0])] 6) (tr2 := []) (by kernel_rfl) (by simp [hitC, missC, sameB, sameE, hn276, hn289, hn302, hn315, hn328, hn341, hn354]) ?_
                        obtain ⟨y355, hy356, h357⟩ := bindS h352
                        refine RJ.callG (d := (some 79)) (f := 47) (args := [.ptr 7 0, .ptr 6 0]) (args0 := [.ptr 0 0, .ptr 1 0]) (v0 := .bool y355) (v := .bool y355) (tr2 := []) (H0 := [.box [.fn (.func 40) [] [.ptr 1 0]], .box [.bool ((⟨x0.Neg_, s145, y155⟩ : St57).neg_), .bool ((⟨x0.Neg_, s145, y155⟩ : St57).odd_), .int .i64 ((⟨x0.Neg_, s145, y155⟩ : St57).half_)]]) (H0' := [.box [.fn (.func 40) [] [.ptr 1 0]], .box [.bool ((⟨x0.Neg_, s145, y155⟩ : St57).neg_), .bool ((⟨x0.Neg_, s145, y155⟩ : St57).odd_), .int .i64 ((⟨x0.Neg_, s145, y155⟩ : St57).half_)]]) (H2 := [.box [.bool x0.Neg_, lsv (encI .u8) 1 x0.D_, .int .i64 x0.E_], .box [.bool false, .nl, .int .i64 0], vecL (encI .u8) 1 5 y84.1, .res, .box [.bool x0.Neg_, .bool s145, .int .i64 y155], .map [(.int .i64 0, .fn (.func 41) [] []), (.int .i64 1, .fn (.func 42) [] []), (.int .i64 2, .fn (.func 43) [] [.ptr 6 0]), (.int .i64 3, .fn (.func 44) [] [.ptr 6 0]), (.int .i64 4, .fn (.func 45) [] [.ptr 7 0]), (.int .i64 5, .fn (.func 46) [] [.ptr 7 0]), (.int .i64 6, .fn (.func 47) [] [.ptr 7 0, .ptr 6 0]), (.int .i64 7, .fn (.func 48) [] [.ptr 7 0, .ptr 6 0])], .box [.bool ((⟨x0.Neg_, s145, y155⟩ : St57).neg_), .bool ((⟨x0.Neg_, s145, y155⟩ : St57).odd_), .int .i64 ((⟨x0.Neg_, s145, y155⟩ : St57).half_)], .box [.fn (.func 40) [] [.ptr 6 0]]]) [7, 6] (by kernel_rfl) (by kernel_rfl) (by kernel_rfl) (by kernel_rfl) (by decide) (by kernel_rfl) (by kernel_rfl) (by kernel_rfl) (.cons (Le.refl _) (.cons (Le.refl _) .nil)) (round_ways_8_s0_ok hy356) (by kernel_rfl) (by kernel_rfl) (by kernel_rfl) ?_
                        refine RJ.end (by kernel_rfl) ?_
                        refine PJ.next ?_
                        refine J.caseB 79 (b := y355) (by kernel_rfl) (fun hb358 => ?_) (fun hb358 => ?_)
                        · have h359 := condT hb358 h357
                          refine K.condT (by kernel_rfl) ?_
                          refine K.region (by kernel_rfl) ?_
                          refine RJ.seg 1 [1, 2, 4, 8, 9, 10, 80] (L2 := [(1, .int .i64 x1), (2, .int .i64 x2), (4, .ptr 0 0), (8, .ptr 1 0), (9, .int .i64 0), (10, .vc 2), (80, .vc 2)]) (H2 := [.box [.bool x0.Neg_, lsv (encI .u8) 1 x0.D_, .int .i64 x0.E_], .box [.bool false, .nl, .int .i64 0], vecL (encI .u8) 1 5 y84.1, .res, .box [.bool x0.Neg_, .bool s145, .int .i64 y155], .map [(.int .i64 0, .fn (.func 41) [] []), (.int .i64 1, .fn (.func 42) [] []), (.int .i64 2, .fn (.func 43) [] [.ptr 6 0]), (.int .i64 3, .fn (.func 44) [] [.ptr 6 0]), (.int .i64 4, .fn (.func 45) [] [.ptr 7 0]), (.int .i64 5, .fn (.func 46) [] [.ptr 7 0]), (.int .i64 6, .fn (.func 47) [] [.ptr 7 0, .ptr 6 0]), (.int .i64 7, .fn (.func 48) [] [.ptr 7 0, .ptr 6 0])], .box [.bool ((⟨x0.Neg_, s145, y155⟩ : St57).neg_), .bool ((⟨x0.Neg_, s145, y155⟩ : St57).odd_), .int .i64 ((⟨x0.Neg_, s145, y155⟩ : St57).half_)], .box [.fn (.func 40) [] [.ptr 6 0]]]) (by kernel_rfl) ?_
                          obtain ⟨y361, hy362, h363⟩ := bindS h359
                          refine RJ.callG (d := (some 81)) (f := 31) (args := [.vc 2]) (args0 := [.vc 0]) (v0 := lsv (encI .u8) 1 y361) (v := lsv (encI .u8) 1 y361) (tr2 := []) (H0 := [vecL (encI .u8) 1 5 y84.1]) (H0' := [.gone]) (H2 := [.box [.bool x0.Neg_, lsv (encI .u8) 1 x0.D_, .int .i64 x0.E_], .box [.bool false, .nl, .int .i64 0], .gone, .res, .box [.bool x0.Neg_, .bool s145, .int .i64 y155], .map [(.int .i64 0, .fn (.func 41) [] []), (.int .i64 1, .fn (.func 42) [] []), (.int .i64 2, .fn (.func 43) [] [.ptr 6 0]), (.int .i64 3, .fn (.func 44) [] [.ptr 6 0]), (.int .i64 4, .fn (.func 45) [] [.ptr 7 0]), (.int .i64 5, .fn (.func 46) [] [.ptr 7 0]), (.int .i64 6, .fn (.func 47) [] [.ptr 7 0, .ptr 6 0]), (.int .i64 7, .fn (.func 48) [] [.ptr 7 0, .ptr 6 0])], .box [.bool ((⟨x0.Neg_, s145, y155⟩ : St57).neg_), .bool ((⟨x0.Neg_, s145, y155⟩ : St57).odd_), .int .i64 ((⟨x0.Neg_, s145, y155⟩ : St57).half_)], .box [.fn (.func 40) [] [.ptr 6 0]]]) [2] (by kernel_rfl) (by kernel_rfl) (by kernel_rfl) (by kernel_rfl) (by decide) (by kernel_rfl) (by kernel_rfl) (by kernel_rfl) (.cons (Le.refl _) .nil) (round_next_ok_0 hy362) (by kernel_rfl) (by kernel_rfl) (by kernel_rfl) ?_
                          refine RJ.seg 1 [1, 2, 4, 8, 9, 10] (L2 := [(1, .int .i64 x1), (2, .int .i64 x2), (4, .ptr 0 0), (8, .ptr 1 0), (9, .int .i64 0), (10, lsv (encI .u8) 1 y361)]) (H2 := [.box [.bool x0.Neg_, lsv (encI .u8) 1 x0.D_, .int .i64 x0.E_], .box [.bool false, .nl, .int .i64 0], .gone, .res, .box [.bool x0.Neg_, .bool s145, .int .i64 y155], .map [(.int .i64 0, .fn (.func 41) [] []), (.int .i64 1, .fn (.func 42) [] []), (.int .i64 2, .fn (.func 43) [] [.ptr 6 0]), (.int .i64 3, .fn (.func 44) [] [.ptr 6 0]), (.int .i64 4, .fn (.func 45) [] [.ptr 7 0]), (.int .i64 5, .fn (.func 46) [] [.ptr 7 0]), (.int .i64 6, .fn (.func 47) [] [.ptr 7 0, .ptr 6 0]), (.int .i64 7, .fn (.func 48) [] [.ptr 7 0, .ptr 6 0])], .box [.bool ((⟨x0.Neg_, s145, y155⟩ : St57).neg_), .bool ((⟨x0.Neg_, s145, y155⟩ : St57).odd_), .int .i64 ((⟨x0.Neg_, s145, y155⟩ : St57).half_)], .box [.fn (.func 40) [] [.ptr 6 0]]]) (by kernel_rfl) ?_
                          refine RJ.end (by kernel_rfl) ?_
                          obtain rfl := Option.some.inj h363
                          refine PJ.wk (Wk.sel (L2 := [(1, .int .i64 x1), (2, .int .i64 x2), (4, .ptr 0 0), (8, .ptr 1 0), (9, .int .i64 0), (10, lsv (encI .u8) 1 y361)]) (H2 := [.box [.bool x0.Neg_, lsv (encI .u8) 1 x0.D_, .int .i64 x0.E_], .box [.bool false, .nl, .int .i64 0]]) 0 (by rw [hFH]; rfl) hFD [0, 1] (by kernel_rfl) (by kernel_rfl) (by decide) (by kernel_rfl) (by kernel_rfl) (by kernel_rfl) (by kernel_rfl)) ?_
                          exact PJ.cutN [1, 2, 4, 8, 9, 10] (by kernel_rfl) (by kernel_rfl)
                        · have h360 := condF hb358 h357
                          refine K.condF (by kernel_rfl) ?_
                          refine K.skip (by kernel_rfl) ?_
                          obtain rfl := Option.some.inj h360
                          refine PJ.wk (Wk.freeze 2 (n := y84.1.length) (k := 1) (e := 5) (cs := y84.1.flatMap (encI .u8)) (by kernel_rfl)) ?_
                          refine PJ.wk (Wk.sel (L2 := [(1, .int .i64 x1), (2, .int .i64 x2), (4, .ptr 0 0), (8, .ptr 1 0), (9, .int .i64 0), (10, lsv (encI .u8) 1 y84.1)]) (H2 := [.box [.bool x0.Neg_, lsv (encI .u8) 1 x0.D_, .int .i64 x0.E_], .box [.bool false, .nl, .int .i64 0]]) 0 (by rw [hFH]; rfl) hFD [0, 1] (by kernel_rfl) (by kernel_rfl) (by decide) (by kernel_rfl) (by kernel_rfl) (by kernel_rfl) (by kernel_rfl)) ?_
                          exact PJ.cutN [1, 2, 4, 8, 9, 10] (by kernel_rfl) (by kernel_rfl)
                    · have h339 := condT hb338 h327
                      have hn341 := of_decide_eq_true hb338
                      refine RJ.look (some 5) (d := some 78) (ef := ⟨.fn (.func 46) [] [.ptr 7 0], [5], []⟩) (c := hitC (.int .i64 x3) [(.int .i64 0, .fn (.func 41) [] []), (.int .i64 1, .fn (.func 42) [] []), (.int .i64 2, .fn (.func 43) [] [.ptr 6 0]), (.int .i64 3, .fn (.func 44) [] [.ptr 6 0]), (.int .i64 4, .fn (.func 45) [] [.ptr 7 0]), (.int .i64 5, .fn (.func 46) [] [.ptr 7 0]), (.int .i64 6, .fn (.func 47) [] [.ptr 7 0, .ptr 6 0]), (.int .i64 7, .fn (.func 48) [] [.ptr 7 0, .ptr 6 0])] 5) (tr2 := []) (by kernel_rfl) (by simp [hitC, missC, sameB, sameE, hn276, hn289, hn302, hn315, hn328, hn341]) ?_
                      obtain ⟨y342, hy343, h344⟩ := bindS h339
                      refine RJ.callG (d := (some 79)) (f := 46) (args := [.ptr 7 0]) (args0 := [.ptr 0 0]) (v0 := .bool y342) (v := .bool y342) (tr2 := []) (H0 := [.box [.fn (.func 40) [] [.ptr 1 0]], .box [.bool ((⟨x0.Neg_, s145, y155⟩ : St57).neg_), .bool ((⟨x0.Neg_, s145, y155⟩ : St57).odd_), .int .i64 ((⟨x0.Neg_, s145, y155⟩ : St57).half_)]]) (H0' := [.box [.fn (.func 40) [] [.ptr 1 0]], .box [.bool ((⟨x0.Neg_, s145, y155⟩ : St57).neg_), .bool ((⟨x0.Neg_, s145, y155⟩ : St57).odd_), .int .i64 ((⟨x0.Neg_, s145, y155⟩ : St57).half_)]]) (H2 := [.box [.bool x0.Neg_, lsv (encI .u8) 1 x0.D_, .int .i64 x0.E_], .box [.bool false, .nl, .int .i64 0], vecL (encI .u8) 1 5 y84.1, .res, .box [.bool x0.Neg_, .bool s145, .int .i64 y155], .map [(.int .i64 0, .fn (.func 41) [] []), (.int .i64 1, .fn (.func 42) [] []), (.int .i64 2, .fn (.func 43) [] [.ptr 6 0]), (.int .i64 3, .fn (.func 44) [] [.ptr 6 0]), (.int .i64 4, .fn (.func 45) [] [.ptr 7 0]), (.int .i64 5, .fn (.func 46) [] [.ptr 7 0]), (.int .i64 6, .fn (.func 47) [] [.ptr 7 0, .ptr 6 0]), (.int .i64 7, .fn (.func 48) [] [.ptr 7 0, .ptr 6 0])], .box [.bool ((⟨x0.Neg_, s145, y155⟩ : St57).neg_), .bool ((⟨x0.Neg_, s145, y155⟩ : St57).odd_), .int .i64 ((⟨x0.Neg_, s145, y155⟩ : St57).half_)], .box [.fn (.func 40) [] [.ptr 6 0]]]) [7, 6] (by kernel_rfl) (by kernel_rfl) (by kernel_rfl) (by kernel_rfl) (by decide) (by kernel_rfl) (by kernel_rfl) (by kernel_rfl) (.cons (Le.refl _) .nil) (round_ways_7_s0_ok hy343) (by kernel_rfl) (by kernel_rfl) (by kernel_rfl) ?_
                      refine RJ.end (by kernel_rfl) ?_
                      refine PJ.next ?_
                      refine J.caseB 79 (b := y342) (by kernel_rfl) (fun hb345 => ?_) (fun hb345 => ?_)
                      · have h346 := condT hb345 h344
                        refine K.condT (by kernel_rfl) ?_
                        refine K.region (by kernel_rfl) ?_
                        refine RJ.seg 1 [1, 2, 4, 8, 9, 10, 80] (L2 := [(1, .int .i64 x1), (2, .int .i64 x2), (4, .ptr 0 0), (8, .ptr 1 0), (9, .int .i64 0), (10, .vc 2), (80, .vc 2)]) (H2 := [.box [.bool x0.Neg_, lsv (encI .u8) 1 x0.D_, .int .i64 x0.E_], .box [.bool false, .nl, .int .i64 0], vecL (encI .u8) 1 5 y84.1, .res, .box [.bool x0.Neg_, .bool s145, .int .i64 y155], .map [(.int .i64 0, .fn (.func 41) [] []), (.int .i64 1, .fn (.func 42) [] []), (.int .i64 2, .fn (.func 43) [] [.ptr 6 0]), (.int .i64 3, .fn (.func 44) [] [.ptr 6 0]), (.int .i64 4, .fn (.func 45) [] [.ptr 7 0]), (.int .i64 5, .fn (.func 46) [] [.ptr 7 0]), (.int .i64 6, .fn (.func 47) [] [.ptr 7 0, .ptr 6 0]), (.int .i64 7, .fn (.func 48) [] [.ptr 7 0, .ptr 6 0])], .box [.bool ((⟨x0.Neg_, s145, y155⟩ : St57).neg_), .bool ((⟨x0.Neg_, s145, y155⟩ : St57).odd_), .int .i64 ((⟨x0.Neg_, s145, y155⟩ : St57).half_)], .box [.fn (.func 40) [] [.ptr 6 0]]]) (by kernel_rfl) ?_
                        obtain ⟨y348, hy349, h350⟩ := bindS h346
                        refine RJ.callG (d := (some 81)) (f := 31) (args := [.vc 2]) (args0 := [.vc 0]) (v0 := lsv (encI .u8) 1 y348) (v := lsv (encI .u8) 1 y348) (tr2 := []) (H0 := [vecL (encI .u8) 1 5 y84.1]) (H0' := [.gone]) (H2 := [.box [.bool x0.Neg_, lsv (encI .u8) 1 x0.D_, .int .i64 x0.E_], .box [.bool false, .nl, .int .i64 0], .gone, .res, .box [.bool x0.Neg_, .bool s145, .int .i64 y155], .map [(.int .i64 0, .fn (.func 41) [] []), (.int .i64 1, .fn (.func 42) [] []), (.int .i64 2, .fn (.func 43) [] [.ptr 6 0]), (.int .i64 3, .fn (.func 44) [] [.ptr 6 0]), (.int .i64 4, .fn (.func 45) [] [.ptr 7 0]), (.int .i64 5, .fn (.func 46) [] [.ptr 7 0]), (.int .i64 6, .fn (.func 47) [] [.ptr 7 0, .ptr 6 0]), (.int .i64 7, .fn (.func 48) [] [.ptr 7 0, .ptr 6 0])], .box [.bool ((⟨x0.Neg_, s145, y155⟩ : St57).neg_), .bool ((⟨x0.Neg_, s145, y155⟩ : St57).odd_), .int .i64 ((⟨x0.Neg_, s145, y155⟩ : St57).half_)], .box [.fn (.func 40) [] [.ptr 6 0]]]) [2] (by kernel_rfl) (by kernel_rfl) (by kernel_rfl) (by kernel_rfl) (by decide) (by kernel_rfl) (by kernel_rfl) (by kernel_rfl) (.cons (Le.refl _) .nil) (round_next_ok_0 hy349) (by kernel_rfl) (by kernel_rfl) (by kernel_rfl) ?_
                        refine RJ.seg 1 [1, 2, 4, 8, 9, 10] (L2 := [(1, .int .i64 x1), (2, .int .i64 x2), (4, .ptr 0 0), (8, .ptr 1 0), (9, .int .i64 0), (10, lsv (encI .u8) 1 y348)]) (H2 := [.box [.bool x0.Neg_, lsv (encI .u8) 1 x0.D_, .int .i64 x0.E_], .box [.bool false, .nl, .int .i64 0], .gone, .res, .box [.bool x0.Neg_, .bool s145, .int .i64 y155], .map [(.int .i64 0, .fn (.func 41) [] []), (.int .i64 1, .fn (.func 42) [] []), (.int .i64 2, .fn (.func 43) [] [.ptr 6 0]), (.int .i64 3, .fn (.func 44) [] [.ptr 6 0]), (.int .i64 4, .fn (.func 45) [] [.ptr 7 0]), (.int .i64 5, .fn (.func 46) [] [.ptr 7 0]), (.int .i64 6, .fn (.func 47) [] [.ptr 7 0, .ptr 6 0]), (.int .i64 7, .fn (.func 48) [] [.ptr 7 0, .ptr 6 0])], .box [.bool ((⟨x0.Neg_, s145, y155⟩ : St57).neg_), .bool ((⟨x0.Neg_, s145, y155⟩ : St57).odd_), .int .i64 ((⟨x0.Neg_, s145, y155⟩ : St57).half_)], .box [.fn (.func 40) [] [.ptr 6 0]]]) (by kernel_rfl) ?_
                        refine RJ.end (by kernel_rfl) ?_
                        obtain rfl := Option.some.inj h350
                        refine PJ.wk (Wk.sel (L2 := [(1, .int .i64 x1), (2, .int .i64 x2), (4, .ptr 0 0), (8, .ptr 1 0), (9, .int .i64 0), (10, lsv (encI .u8) 1 y348)]) (H2 := [.box [.bool x0.Neg_, lsv (encI .u8) 1 x0.D_, .int .i64 x0.E_], .box [.bool false, .nl, .int .i64 0]]) 0 (by rw [hFH]; rfl) hFD [0, 1] (by kernel_rfl) (by kernel_rfl) (by decide) (by kernel_rfl) (by kernel_rfl) (by kernel_rfl) (by kernel_rfl)) ?_
                        exact PJ.cutN [1, 2, 4, 8, 9, 10] (by kernel_rfl) (by kernel_rfl)
                      · have h347 := condF hb345 h344
                        refine K.condF (by kernel_rfl) ?_
                        refine K.skip (by kernel_rfl) ?_
                        obtain rfl := Option.some.inj h347
                        refine PJ.wk (Wk.freeze 2 (n := y84.1.length) (k := 1) (e := 5) (cs := y84.1.flatMap (encI .u8)) (by kernel_rfl)) ?_
                        refine PJ.wk (Wk.sel (L2 := [(1, .int .i64 x1), (2, .int .i64 x2), (4, .ptr 0 0), (8, .ptr 1 0), (9, .int .i64 0), (10, lsv (encI .u8) 1 y84.1)]) (H2 := [.box [.bool x0.Neg_, lsv (encI .u8) 1 x0.D_, .int .i64 x0.E_], .box [.bool false, .nl, .int .i64 0]]) 0 (by rw [hFH]; rfl) hFD [0, 1] (by kernel_rfl) (by kernel_rfl) (by decide) (by kernel_rfl) (by kernel_rfl) (by kernel_rfl) (by kernel_rfl)) ?_
                        exact PJ.cutN [1, 2, 4, 8, 9, 10] (by kernel_rfl) (by kernel_rfl)
                  · have h326 := condT hb325 h314
                    have hn328 := of_decide_eq_true hb325
                    refine RJ.look (some 4) (d := some 78) (ef := ⟨.fn (.func 45) [] [.ptr 7 0], [5], []⟩) (c := hitC (.int .i64 x3) [(.int .i64 0, .fn (.func 41) [] []), (.int .i64 1, .fn (.func 42) [] []), (.int .i64 2, .fn (.func 43) [] [.ptr 6 0]), (.int .i64 3, .fn (.func 44) [] [.ptr 6 0]), (.int .i64 4, .fn (.func 45) [] [.ptr 7 0]), (.int .i64 5, .fn (.func 46) [] [.ptr 7 0]), (.int .i64 6, .fn (.func 47) [] [.ptr 7 0, .ptr 6 0]), (.int .i64 7, .fn (.func 48) [] [.ptr 7 0, .ptr 6 0])] 4) (tr2 := []) (by kernel_rfl) (by simp [hitC, missC, sameB, sameE, hn276, hn289, hn302, hn315, hn328]) ?_
                    obtain ⟨y329, hy330, h331⟩ := bindS h326
                    refine RJ.callG (d := (some 79)) (f := 45) (args := [.ptr 7 0]) (args0 := [.ptr 0 0]) (v0 := .bool y329) (v := .bool y329) (tr2 := []) (H0 := [.box [.fn (.func 40) [] [.ptr 1 0]], .box [.bool ((⟨x0.Neg_, s145, y155⟩ : St57).neg_), .bool ((⟨x0.Neg_, s145, y155⟩ : St57).odd_), .int .i64 ((⟨x0.Neg_, s145, y155⟩ : St57).half_)]]) (H0' := [.box [.fn (.func 40) [] [.ptr 1 0]], .box [.bool ((⟨x0.Neg_, s145, y155⟩ : St57).neg_), .bool ((⟨x0.Neg_, s145, y155⟩ : St57).odd_), .int .i64 ((⟨x0.Neg_, s145, y155⟩ : St57).half_)]]) (H2 := [.box [.bool x0.Neg_, lsv (encI .u8) 1 x0.D_, .int .i64 x0.E_], .box [.bool false, .nl, .int .i64 0], vecL (encI .u8) 1 5 y84.1, .res, .box [.bool x0.Neg_, .bool s145, .int .i64 y155], .map [(.int .i64 0, .fn (.func 41) [] []), (.int .i64 1, .fn (.func 42) [] []), (.int .i64 2, .fn (.func 43) [] [.ptr 6 0]), (.int .i64 3, .fn (.func 44) [] [.ptr 6 0]), (.int .i64 4, .fn (.func 45) [] [.ptr 7 0]), (.int .i64 5, .fn (.func 46) [] [.ptr 7 0]), (.int .i64 6, .fn (.func 47) [] [.ptr 7 0, .ptr 6 0]), (.int .i64 7, .fn (.func 48) [] [.ptr 7 0, .ptr 6 0])], .box [.bool ((⟨x0.Neg_, s145, y155⟩ : St57).neg_), .bool ((⟨x0.Neg_, s145, y155⟩ : St57).odd_), .int .i64 ((⟨x0.Neg_, s145, y155⟩ : St57).half_)], .box [.fn (.func 40) [] [.ptr 6 0]]]) [7, 6] (by kernel_rfl) (by kernel_rfl) (by kernel_rfl) (by kernel_rfl) (by decide) (by kernel_rfl) (by kernel_rfl) (by kernel_rfl) (.cons (Le.refl _) .nil) (round_ways_6_s0_ok hy330) (by kernel_rfl) (by kernel_rfl) (by kernel_rfl) ?_
                    refine RJ.end (by kernel_rfl) ?_
                    refine PJ.next ?_
                    refine J.caseB 79 (b := y329) (by kernel_rfl) (fun hb332 => ?_) (fun hb332 => ?_)
                    · have h333 := condT hb332 h331
                      refine K.condT (by kernel_rfl) ?_
                      refine K.region (by kernel_rfl) ?_
                      refine RJ.seg 1 [1, 2, 4, 8, 9, 10, 80] (L2 := [(1, .int .i64 x1), (2, .int .i64 x2), (4, .ptr 0 0), (8, .ptr 1 0), (9, .int .i64 0), (10, .vc 2), (80, .vc 2)]) (H2 := [.box [.bool x0.Neg_, lsv (encI .u8) 1 x0.D_, .int .i64 x0.E_], .box [.bool false, .nl, .int .i64 0], vecL (encI .u8) 1 5 y84.1, .res, .box [.bool x0.Neg_, .bool s145, .int .i64 y155], .map [(.int .i64 0, .fn (.func 41) [] []), (.int .i64 1, .fn (.func 42) [] []), (.int .i64 2, .fn (.func 43) [] [.ptr 6 0]), (.int .i64 3, .fn (.func 44) [] [.ptr 6 0]), (.int .i64 4, .fn (.func 45) [] [.ptr 7 0]), (.int .i64 5, .fn (.func 46) [] [.ptr 7 0]), (.int .i64 6, .fn (.func 47) [] [.ptr 7 0, .ptr 6 0]), (.int .i64 7, .fn (.func 48) [] [.ptr 7 0, .ptr 6 0])], .box [.bool ((⟨x0.Neg_, s145, y155⟩ : St57).neg_), .bool ((⟨x0.Neg_, s145, y155⟩ : St57).odd_), .int .i64 ((⟨x0.Neg_, s145, y155⟩ : St57).half_)], .box [.fn (.func 40) [] [.ptr 6 0]]]) (by kernel_rfl) ?_
                      obtain ⟨y335, hy336, h337⟩ := bindS h333
                      refine RJ.callG (d := (some 81)) (f := 31) (args := [.vc 2]) (args0 := [.vc 0]) (v0 := lsv (encI .u8) 1 y335) (v := lsv (encI .u8) 1 y335) (tr2 := []) (H0 := [vecL (encI .u8) 1 5 y84.1]) (H0' := [.gone]) (H2 := [.box [.bool x0.Neg_, lsv (encI .u8) 1 x0.D_, .int .i64 x0.E_], .box [.bool false, .nl, .int .i64 0], .gone, .res, .box [.bool x0.Neg_, .bool s145, .int .i64 y155], .map [(.int .i64 0, .fn (.func 41) [] []), (.int .i64 1, .fn (.func 42) [] []), (.int .i64 2, .fn (.func 43) [] [.ptr 6 0]), (.int .i64 3, .fn (.func 44) [] [.ptr 6 0]), (.int .i64 4, .fn (.func 45) [] [.ptr 7 0]), (.int .i64 5, .fn (.func 46) [] [.ptr 7 0]), (.int .i64 6, .fn (.func 47) [] [.ptr 7 0, .ptr 6 0]), (.int .i64 7, .fn (.func 48) [] [.ptr 7 0, .ptr 6 0])], .box [.bool ((⟨x0.Neg_, s145, y155⟩ : St57).neg_), .bool ((⟨x0.Neg_, s145, y155⟩ : St57).odd_), .int .i64 ((⟨x0.Neg_, s145, y155⟩ : St57).half_)], .box [.fn (.func 40) [] [.ptr 6 0]]]) [2] (by kernel_rfl) (by kernel_rfl) (by kernel_rfl) (by kernel_rfl) (by decide) (by kernel_rfl) (by kernel_rfl) (by kernel_rfl) (.cons (Le.refl _) .nil) (round_next_ok_0 hy336) (by kernel_rfl) (by kernel_rfl) (by kernel_rfl) ?_
                      refine RJ.seg 1 [1, 2, 4, 8, 9, 10] (L2 := [(1, .int .i64 x1), (2, .int .i64 x2), (4, .ptr 0 0), (8, .ptr 1 0), (9, .int .i64 0), (10, lsv (encI .u8) 1 y335)]) (H2 := [.box [.bool x0.Neg_, lsv (encI .u8) 1 x0.D_, .int .i64 x0.E_], .box [.bool false, .nl, .int .i64 0], .gone, .res, .box [.bool x0.Neg_, .bool s145, .int .i64 y155], .map [(.int .i64 0, .fn (.func 41) [] []), (.int .i64 1, .fn (.func 42) [] []), (.int .i64 2, .fn (.func 43) [] [.ptr 6 0]), (.int .i64 3, .fn (.func 44) [] [.ptr 6 0]), (.int .i64 4, .fn (.func 45) [] [.ptr 7 0]), (.int .i64 5, .fn (.func 46) [] [.ptr 7 0]), (.int .i64 6, .fn (.func 47) [] [.ptr 7 0, .ptr 6 0]), (.int .i64 7, .fn (.func 48) [] [.ptr 7 0, .ptr 6 0])], .box [.bool ((⟨x0.Neg_, s145, y155⟩ : St57).neg_), .bool ((⟨x0.Neg_, s145, y155⟩ : St57).odd_), .int .i64 ((⟨x0.Neg_, s145, y155⟩ : St57).half_)], .box [.fn (.func 40) [] [.ptr 6 0]]]) (by kernel_rfl) ?_
                      refine RJ.end (by kernel_rfl) ?_
                      obtain rfl := Option.some.inj h337
                      refine PJ.wk (Wk.sel (L2 := [(1, .int .i64 x1), (2, .int .i64 x2), (4, .ptr 0 0), (8, .ptr 1 0), (9, .int .i64 0), (10, lsv (encI .u8) 1 y335)]) (H2 := [.box [.bool x0.Neg_, lsv (encI .u8) 1 x0.D_, .int .i64 x0.E_], .box [.bool false, .nl, .int .i64 0]]) 0 (by rw [hFH]; rfl) hFD [0, 1] (by kernel_rfl) (by kernel_rfl) (by decide) (by kernel_rfl) (by kernel_rfl) (by kernel_rfl) (by kernel_rfl)) ?_
                      exact PJ.cutN [1, 2, 4, 8, 9, 10] (by kernel_rfl) (by kernel_rfl)
                    · have h334 := condF hb332 h331
                      refine K.condF (by kernel_rfl) ?_
                      refine K.skip (by kernel_rfl) ?_
                      obtain rfl := Option.some.inj h334
                      refine PJ.wk (Wk.freeze 2 (n := y84.1.length) (k := 1) (e := 5) (cs := y84.1.flatMap (encI .u8)) (by kernel_rfl)) ?_
                      refine PJ.wk (Wk.sel (L2 := [(1, .int .i64 x1), (2, .int .i64 x2), (4, .ptr 0 0), (8, .ptr 1 0), (9, .int .i64 0), (10, lsv (encI .u8) 1 y84.1)]) (H2 := [.box [.bool x0.Neg_, lsv (encI .u8) 1 x0.D_, .int .i64 x0.E_], .box [.bool false, .nl, .int .i64 0]]) 0 (by rw [hFH]; rfl) hFD [0, 1] (by kernel_rfl) (by kernel_rfl) (by decide) (by kernel_rfl) (by kernel_rfl) (by kernel_rfl) (by kernel_rfl)) ?_
                      exact PJ.cutN [1, 2, 4, 8, 9, 10] (by kernel_rfl) (by kernel_rfl)
                · have h313 := condT hb312 h301
                  have hn315 := of_decide_eq_true hb312
                  refine RJ.look (some 3) (d := some 78) (ef := ⟨.fn (.func 44) [] [.ptr 6 0], [5], []⟩) (c := hitC (.int .i64 x3) [(.int .i64 0, .fn (.func 41) [] []), (.int .i64 1, .fn (.func 42) [] []), (.int .i64 2, .fn (.func 43) [] [.ptr 6 0]), (.int .i64 3, .fn (.func 44) [] [.ptr 6 0]), (.int .i64 4, .fn (.func 45) [] [.ptr 7 0]), (.int .i64 5, .fn (.func 46) [] [.ptr 7 0]), (.int .i64 6, .fn (.func 47) [] [.ptr 7 0, .ptr 6 0]), (.int .i64 7, .fn (.func 48) [] [.ptr 7 0, .ptr 6 0])] 3) (tr2 := []) (by kernel_rfl) (by simp [hitC, missC, sameB, sameE, hn276, hn289, hn302, hn315]) ?_
                  obtain ⟨y316, hy317, h318⟩ := bindS h313
                  refine RJ.callG (d := (some 79)) (f := 44) (args := [.ptr 6 0]) (args0 := [.ptr 0 0]) (v0 := .bool y316) (v := .bool y316) (tr2 := []) (H0 := [.box [.bool ((⟨x0.Neg_, s145, y155⟩ : St57).neg_), .bool ((⟨x0.Neg_, s145, y155⟩ : St57).odd_), .int .i64 ((⟨x0.Neg_, s145, y155⟩ : St57).half_)]]) (H0' := [.box [.bool ((⟨x0.Neg_, s145, y155⟩ : St57).neg_), .bool ((⟨x0.Neg_, s145, y155⟩ : St57).odd_), .int .i64 ((⟨x0.Neg_, s145, y155⟩ : St57).half_)]]) (H2 := [.box [.bool x0.Neg_, lsv (encI .u8) 1 x0.D_, .int .i64 x0.E_], .box [.bool false, .nl, .int .i64 0], vecL (encI .u8) 1 5 y84.1, .res, .box [.bool x0.Neg_, .bool s145, .int .i64 y155], .map [(.int .i64 0, .fn (.func 41) [] []), (.int .i64 1, .fn (.func 42) [] []), (.int .i64 2, .fn (.func 43) [] [.ptr 6 0]), (.int .i64 3, .fn (.func 44) [] [.ptr 6 0]), (.int .i64 4, .fn (.func 45) [] [.ptr 7 0]), (.int .i64 5, .fn (.func 46) [] [.ptr 7 0]), (.int .i64 6, .fn (.func 47) [] [.ptr 7 0, .ptr 6 0]), (.int .i64 7, .fn (.func 48) [] [.ptr 7 0, .ptr 6 0])], .box [.bool ((⟨x0.Neg_, s145, y155⟩ : St57).neg_), .bool ((⟨x0.Neg_, s145, y155⟩ : St57).odd_), .int .i64 ((⟨x0.Neg_, s145, y155⟩ : St57).half_)], .box [.fn (.func 40) [] [.ptr 6 0]]]) [6] (by kernel_rfl) (by kernel_rfl) (by kernel_rfl) (by kernel_rfl) (by decide) (by kernel_rfl) (by kernel_rfl) (by kernel_rfl) (.cons (Le.refl _) .nil) (round_ways_5_s0_ok hy317) (by kernel_rfl) (by kernel_rfl) (by kernel_rfl) ?_
                  refine RJ.end (by kernel_rfl) ?_
                  refine PJ.next ?_
                  refine J.caseB 79 (b := y316) (by kernel_rfl) (fun hb319 => ?_) (fun hb319 => ?_)
                  · have h320 := condT hb319 h318
                    refine K.condT (by kernel_rfl) ?_
                    refine K.region (by kernel_rfl) ?_
                    refine RJ.seg 1 [1, 2, 4, 8, 9, 10, 80] (L2 := [(1, .int .i64 x1), (2, .int .i64 x2), (4, .ptr 0 0), (8, .ptr 1 0), (9, .int .i64 0), (10, .vc 2), (80, .vc 2)]) (H2 := [.box [.bool x0.Neg_, lsv (encI .u8) 1 x0.D_, .int .i64 x0.E_], .box [.bool false, .nl, .int .i64 0], vecL (encI .u8) 1 5 y84.1, .res, .box [.bool x0.Neg_, .bool s145, .int .i64 y155], .map [(.int .i64 0, .fn (.func 41) [] []), (.int .i64 1, .fn (.func 42) [] []), (.int .i64 2, .fn (.func 43) [] [.ptr 6 0]), (.int .i64 3, .fn (.func 44) [] [.ptr 6 0]), (.int .i64 4, .fn (.func 45) [] [.ptr 7 0]), (.int .i64 5, .fn (.func 46) [] [.ptr 7 0]), (.int .i64 6, .fn (.func 47) [] [.ptr 7 0, .ptr 6 0]), (.int .i64 7, .fn (.func 48) [] [.ptr 7 0, .ptr 6 0])], .box [.bool ((⟨x0.Neg_, s145, y155⟩ : St57).neg_), .bool ((⟨x0.Neg_, s145, y155⟩ : St57).odd_), .int .i64 ((⟨x0.Neg_, s145, y155⟩ : St57).half_)], .box [.fn (.func 40) [] [.ptr 6 0]]]) (by kernel_rfl) ?_
                    obtain ⟨y322, hy323, h324⟩ := bindS h320
                    refine RJ.callG (d := (some 81)) (f := 31) (args := [.vc 2]) (args0 := [.vc 0]) (v0 := lsv (encI .u8) 1 y322) (v := lsv (encI .u8) 1 y322) (tr2 := []) (H0 := [vecL (encI .u8) 1 5 y84.1]) (H0' := [.gone]) (H2 := [.box [.bool x0.Neg_, lsv (encI .u8) 1 x0.D_, .int .i64 x0.E_], .box [.bool false, .nl, .int .i64 0], .gone, .res, .box [.bool x0.Neg_, .bool s145, .int .i64 y155], .map [(.int .i64 0, .fn (.func 41) [] []), (.int .i64 1, .fn (.func 42) [] []), (.int .i64 2, .fn (.func 43) [] [.ptr 6 0]), (.int .i64 3, .fn (.func 44) [] [.ptr 6 0]), (.int .i64 4, .fn (.func 45) [] [.ptr 7 0]), (.int .i64 5, .fn (.func 46) [] [.ptr 7 0]), (.int .i64 6, .fn (.func 47) [] [.ptr 7 0, .ptr 6 0]), (.int .i64 7, .fn (.func 48) [] [.ptr 7 0, .ptr 6 0])], .box [.bool ((⟨x0.Neg_, s145, y155⟩ : St57).neg_), .bool ((⟨x0.Neg_, s145, y155⟩ : St57).odd_), .int .i64 ((⟨x0.Neg_, s145, y155⟩ : St57).half_)], .box [.fn (.func 40) [] [.ptr 6 0]]]) [2] (by kernel_rfl) (by kernel_rfl) (by kernel_rfl) (by kernel_rfl) (by decide) (by kernel_rfl) (by kernel_rfl) (by kernel_rfl) (.cons (Le.refl _) .nil) (round_next_ok_0 hy323) (by kernel_rfl) (by kernel_rfl) (by kernel_rfl) ?_
                    refine RJ.seg 1 [1, 2, 4, 8, 9, 10] (L2 := [(1, .int .i64 x1), (2, .int .i64 x2), (4, .ptr 0 0), (8, .ptr 1 0), (9, .int .i64 0), (10, lsv (encI .u8) 1 y322)]) (H2 := [.box [.bool x0.Neg_, lsv (encI .u8) 1 x0.D_, .int .i64 x0.E_], .box [.bool false, .nl, .int .i64 0], .gone, .res, .box [.bool x0.Neg_, .bool s145, .int .i64 y155], .map [(.int .i64 0, .fn (.func 41) [] []), (.int .i64 1, .fn (.func 42) [] []), (.int .i64 2, .fn (.func 43) [] [.ptr 6 0]), (.int .i64 3, .fn (.func 44) [] [.ptr 6 0]), (.int .i64 4, .fn (.func 45) [] [.ptr 7 0]), (.int .i64 5, .fn (.func 46) [] [.ptr 7 0]), (.int .i64 6, .fn (.func 47) [] [.ptr 7 0, .ptr 6 0]), (.int .i64 7, .fn (.func 48) [] [.ptr 7 0, .ptr 6 0])], .box [.bool ((⟨x0.Neg_, s145, y155⟩ : St57).neg_), .bool ((⟨x0.Neg_, s145, y155⟩ : St57).odd_), .int .i64 ((⟨x0.Neg_, s145, y155⟩ : St57).half_)], .box [.fn (.func 40) [] [.ptr 6 0]]]) (by kernel_rfl) ?_
                    refine RJ.end (by kernel_rfl) ?_
                    obtain rfl := Option.some.inj h324
                    refine PJ.wk (Wk.sel (L2 := [(1, .int .i64 x1), (2, .int .i64 x2), (4, .ptr 0 0), (8, .ptr 1 0), (9, .int .i64 0), (10, lsv (encI .u8) 1 y322)]) (H2 := [.box [.bool x0.Neg_, lsv (encI .u8) 1 x0.D_, .int .i64 x0.E_], .box [.bool false, .nl, .int .i64 0]]) 0 (by rw [hFH]; rfl) hFD [0, 1] (by kernel_rfl) (by kernel_rfl) (by decide) (by kernel_rfl) (by kernel_rfl) (by kernel_rfl) (by kernel_rfl)) ?_
                    exact PJ.cutN [1, 2, 4, 8, 9, 10] (by kernel_rfl) (by kernel_rfl)
                  · have h321 := condF hb319 h318
                    refine K.condF (by kernel_rfl) ?_
                    refine K.skip (by kernel_rfl) ?_
                    obtain rfl := Option.some.inj h321
                    refine PJ.wk (Wk.freeze 2 (n := y84.1.length) (k := 1) (e := 5) (cs := y84.1.flatMap (encI .u8)) (by kernel_rfl)) ?_
                    refine PJ.wk (Wk.sel (L2 := [(1, .int .i64 x1), (2, .int .i64 x2), (4, .ptr 0 0), (8, .ptr 1 0), (9, .int .i64 0), (10, lsv (encI .u8) 1 y84.1)]) (H2 := [.box [.bool x0.Neg_, lsv (encI .u8) 1 x0.D_, .int .i64 x0.E_], .box [.bool false, .nl, .int .i64 0]]) 0 (by rw [hFH]; rfl) hFD [0, 1] (by kernel_rfl) (by kernel_rfl) (by decide) (by kernel_rfl) (by kernel_rfl) (by kernel_rfl) (by kernel_rfl)) ?_
                    exact PJ.cutN [1, 2, 4, 8, 9, 10] (by kernel_rfl) (by kernel_rfl)
              · have h300 := condT hb299 h288
                have hn302 := of_decide_eq_true hb299
                refine RJ.look (some 2) (d := some 78) (ef := ⟨.fn (.func 43) [] [.ptr 6 0], [5], []⟩) (c := hitC (.int .i64 x3) [(.int .i64 0, .fn (.func 41) [] []), (.int .i64 1, .fn (.func 42) [] []), (.int .i64 2, .fn (.func 43) [] [.ptr 6 0]), (.int .i64 3, .fn (.func 44) [] [.ptr 6 0]), (.int .i64 4, .fn (.func 45) [] [.ptr 7 0]), (.int .i64 5, .fn (.func 46) [] [.ptr 7 0]), (.int .i64 6, .fn (.func 47) [] [.ptr 7 0, .ptr 6 0]), (.int .i64 7, .fn (.func 48) [] [.ptr 7 0, .ptr 6 0])] 2) (tr2 := []) (by kernel_rfl) (by simp [hitC, missC, sameB, sameE, hn276, hn289, hn302]) ?_
                obtain ⟨y303, hy304, h305⟩ := bindS h300
                refine RJ.callG (d := (some 79)) (f := 43) (args := [.ptr 6 0]) (args0 := [.ptr 0 0]) (v0 := .bool y303) (v := .bool y303) (tr2 := []) (H0 := [.box [.bool ((⟨x0.Neg_, s145, y155⟩ : St57).neg_), .bool ((⟨x0.Neg_, s145, y155⟩ : St57).odd_), .int .i64 ((⟨x0.Neg_, s145, y155⟩ : St57).half_)]]) (H0' := [.box [.bool ((⟨x0.Neg_, s145, y155⟩ : St57).neg_), .bool ((⟨x0.Neg_, s145, y155⟩ : St57).odd_), .int .i64 ((⟨x0.Neg_, s145, y155⟩ : St57).half_)]]) (H2 := [.box [.bool x0.Neg_, lsv (encI .u8) 1 x0.D_, .int .i64 x0.E_], .box [.bool false, .nl, .int .i64 0], vecL (encI .u8) 1 5 y84.1, .res, .box [.bool x0.Neg_, .bool s145, .int .i64 y155], .map [(.int .i64 0, .fn (.func 41) [] []), (.int .i64 1, .fn (.func 42) [] []), (.int .i64 2, .fn (.func 43) [] [.ptr 6 0]), (.int .i64 3, .fn (.func 44) [] [.ptr 6 0]), (.int .i64 4, .fn (.func 45) [] [.ptr 7 0]), (.int .i64 5, .fn (.func 46) [] [.ptr 7 0]), (.int .i64 6, .fn (.func 47) [] [.ptr 7 0, .ptr 6 0]), (.int .i64 7, .fn (.func 48) [] [.ptr 7 0, .ptr 6 0])], .box [.bool ((⟨x0.Neg_, s145, y155⟩ : St57).neg_), .bool ((⟨x0.Neg_, s145, y155⟩ : St57).odd_), .int .i64 ((⟨x0.Neg_, s145, y155⟩ : St57).half_)], .box [.fn (.func 40) [] [.ptr 6 0]]]) [6] (by kernel_rfl) (by kernel_rfl) (by kernel_rfl) (by kernel_rfl) (by decide) (by kernel_rfl) (by kernel_rfl) (by kernel_rfl) (.cons (Le.refl _) .nil) (round_ways_4_s0_ok hy304) (by kernel_rfl) (by kernel_rfl) (by kernel_rfl) ?_
                refine RJ.end (by kernel_rfl) ?_
                refine PJ.next ?_
                refine J.caseB 79 (b := y303) (by kernel_rfl) (fun hb306 => ?_) (fun hb306 => ?_)
                · have h307 := condT hb306 h305
                  refine K.condT (by kernel_rfl) ?_
                  refine K.region (by kernel_rfl) ?_
                  refine RJ.seg 1 [1, 2, 4, 8, 9, 10, 80] (L2 := [(1, .int .i64 x1), (2, .int .i64 x2), (4, .ptr 0 0), (8, .ptr 1 0), (9, .int .i64 0), (10, .vc 2), (80, .vc 2)]) (H2 := [.box [.bool x0.Neg_, lsv (encI .u8) 1 x0.D_, .int .i64 x0.E_], .box [.bool false, .nl, .int .i64 0], vecL (encI .u8) 1 5 y84.1, .res, .box [.bool x0.Neg_, .bool s145, .int .i64 y155], .map [(.int .i64 0, .fn (.func 41) [] []), (.int .i64 1, .fn (.func 42) [] []), (.int .i64 2, .fn (.func 43) [] [.ptr 6 0]), (.int .i64 3, .fn (.func 44) [] [.ptr 6 0]), (.int .i64 4, .fn (.func 45) [] [.ptr 7 0]), (.int .i64 5, .fn (.func 46) [] [.ptr 7 0]), (.int .i64 6, .fn (.func 47) [] [.ptr 7 0, .ptr 6 0]), (.int .i64 7, .fn (.func 48) [] [.ptr 7 0, .ptr 6 0])], .box [.bool ((⟨x0.Neg_, s145, y155⟩ : St57).neg_), .bool ((⟨x0.Neg_, s145, y155⟩ : St57).odd_), .int .i64 ((⟨x0.Neg_, s145, y155⟩ : St57).half_)], .box [.fn (.func 40) [] [.ptr 6 0]]]) (by kernel_rfl) ?_
                  obtain ⟨y309, hy310, h311⟩ := bindS h307
                  refine RJ.callG (d := (some 81)) (f := 31) (args := [.vc 2]) (args0 := [.vc 0]) (v0 := lsv (encI .u8) 1 y309) (v := lsv (encI .u8) 1 y309) (tr2 := []) (H0 := [vecL (encI .u8) 1 5 y84.1]) (H0' := [.gone]) (H2 := [.box [.bool x0.Neg_, lsv (encI .u8) 1 x0.D_, .int .i64 x0.E_], .box [.bool false, .nl, .int .i64 0], .gone, .res, .box [.bool x0.Neg_, .bool s145, .int .i64 y155], .map [(.int .i64 0, .fn (.func 41) [] []), (.int .i64 1, .fn (.func 42) [] []), (.int .i64 2, .fn (.func 43) [] [.ptr 6 0]), (.int .i64 3, .fn (.func 44) [] [.ptr 6 0]), (.int .i64 4, .fn (.func 45) [] [.ptr 7 0]), (.int .i64 5, .fn (.func 46) [] [.ptr 7 0]), (.int .i64 6, .fn (.func 47) [] [.ptr 7 0, .ptr 6 0]), (.int .i64 7, .fn (.func 48) [] [.ptr 7 0, .ptr 6 0])], .box [.bool ((⟨x0.Neg_, s145, y155⟩ : St57).neg_), .bool ((⟨x0.Neg_, s145, y155⟩ : St57).odd_), .int .i64 ((⟨x0.Neg_, s145, y155⟩ : St57).half_)], .box [.fn (.func 40) [] [.ptr 6 0]]]) [2] (by kernel_rfl) (by kernel_rfl) (by kernel_rfl) (by kernel_rfl) (by decide) (by kernel_rfl) (by kernel_rfl) (by kernel_rfl) (.cons (Le.refl _) .nil) (round_next_ok_0 hy310) (by kernel_rfl) (by kernel_rfl) (by kernel_rfl) ?_
                  refine RJ.seg 1 [1, 2, 4, 8, 9, 10] (L2 := [(1, .int .i64 x1), (2, .int .i64 x2), (4, .ptr 0 0), (8, .ptr 1 0), (9, .int .i64 0), (10, lsv (encI .u8) 1 y309)]) (H2 := [.box [.bool x0.Neg_, lsv (encI .u8) 1 x0.D_, .int .i64 x0.E_], .box [.bool false, .nl, .int .i64 0], .gone, .res, .box [.bool x0.Neg_, .bool s145, .int .i64 y155], .map [(.int .i64 0, .fn (.func 41) [] []), (.int .i64 1, .fn (.func 42) [] []), (.int .i64 2, .fn (.func 43) [] [.ptr 6 0]), (.int .i64 3, .fn (.func 44) [] [.ptr 6 0]), (.int .i64 4, .fn (.func 45) [] [.ptr 7 0]), (.int .i64 5, .fn (.func 46) [] [.ptr 7 0]), (.int .i64 6, .fn (.func 47) [] [.ptr 7 0, .ptr 6 0]), (.int .i64 7, .fn (.func 48) [] [.ptr 7 0, .ptr 6 0])], .box [.bool ((⟨x0.Neg_, s145, y155⟩ : St57).neg_), .bool ((⟨x0.Neg_, s145, y155⟩ : St57).odd_), .int .i64 ((⟨x0.Neg_, s145, y155⟩ : St57).half_)], .box [.fn (.func 40) [] [.ptr 6 0]]]) (by kernel_rfl) ?_
                  refine RJ.end (by kernel_rfl) ?_
                  obtain rfl := Option.some.inj h311
                  refine PJ.wk (Wk.sel (L2 := [(1, .int .i64 x1), (2, .int .i64 x2), (4, .ptr 0 0), (8, .ptr 1 0), (9, .int .i64 0), (10, lsv (encI .u8) 1 y309)]) (H2 := [.box [.bool x0.Neg_, lsv (encI .u8) 1 x0.D_, .int .i64 x0.E_], .box [.bool false, .nl, .int .i64 0]]) 0 (by rw [hFH]; rfl) hFD [0, 1] (by kernel_rfl) (by kernel_rfl) (by decide) (by kernel_rfl) (by kernel_rfl) (by kernel_rfl) (by kernel_rfl)) ?_
                  exact PJ.cutN [1, 2, 4, 8, 9, 10] (by kernel_rfl) (by kernel_rfl)
                · have h308 := condF hb306 h305
                  refine K.condF (by kernel_rfl) ?_
                  refine K.skip (by kernel_rfl) ?_
                  obtain rfl := Option.some.inj h308
                  refine PJ.wk (Wk.freeze 2 (n := y84.1.length) (k := 1) (e := 5) (cs := y84.1.flatMap (encI .u8)) (by kernel_rfl)) ?_
                  refine PJ.wk (Wk.sel (L2 := [(1, .int .i64 x1), (2, .int .i64 x2), (4, .ptr 0 0), (8, .ptr 1 0), (9, .int .i64 0), (10, lsv (encI .u8) 1 y84.1)]) (H2 := [.box [.bool x0.Neg_, lsv (encI .u8) 1 x0.D_, .int .i64 x0.E_], .box [.bool false, .nl, .int .i64 0]]) 0 (by rw [hFH]; rfl) hFD [0, 1] (by kernel_rfl) (by kernel_rfl) (by decide) (by kernel_rfl) (by kernel_rfl) (by kernel_rfl) (by kernel_rfl)) ?_
                  exact PJ.cutN [1, 2, 4, 8, 9, 10] (by kernel_rfl) (by kernel_rfl)
            · have h287 := condT hb286 h275
              have hn289 := of_decide_eq_true hb286
              refine RJ.look (some 1) (d := some 78) (ef := ⟨.fn (.func 42) [] [], [5], []⟩) (c := hitC (.int .i64 x3) [(.int .i64 0, .fn (.func 41) [] []), (.int .i64 1, .fn (.func 42) [] []), (.int .i64 2, .fn (.func 43) [] [.ptr 6 0]), (.int .i64 3, .fn (.func 44) [] [.ptr 6 0]), (.int .i64 4, .fn (.func 45) [] [.ptr 7 0]), (.int .i64 5, .fn (.func 46) [] [.ptr 7 0]), (.int .i64 6, .fn (.func 47) [] [.ptr 7 0, .ptr 6 0]), (.int .i64 7, .fn (.func 48) [] [.ptr 7 0, .ptr 6 0])] 1) (tr2 := []) (by kernel_rfl) (by simp [hitC, missC, sameB, sameE, hn276, hn289]) ?_
              obtain ⟨y290, hy291, h292⟩ := bindS h287
              refine RJ.call0 (d := (some 79)) (f := 42) (args := []) (v := .bool y290) (tr2 := []) (by kernel_rfl) (by kernel_rfl) .nil (round_ways_3_ok hy291) (by kernel_rfl) ?_
              refine RJ.end (by kernel_rfl) ?_
              refine PJ.next ?_
              refine J.caseB 79 (b := y290) (by kernel_rfl) (fun hb293 => ?_) (fun hb293 => ?_)
              · have h294 := condT hb293 h292
                refine K.condT (by kernel_rfl) ?_
                refine K.region (by kernel_rfl) ?_
                refine RJ.seg 1 [1, 2, 4, 8, 9, 10, 80] (L2 := [(1, .int .i64 x1), (2, .int .i64 x2), (4, .ptr 0 0), (8, .ptr 1 0), (9, .int .i64 0), (10, .vc 2), (80, .vc 2)]) (H2 := [.box [.bool x0.Neg_, lsv (encI .u8) 1 x0.D_, .int .i64 x0.E_], .box [.bool false, .nl, .int .i64 0], vecL (encI .u8) 1 5 y84.1, .res, .box [.bool x0.Neg_, .bool s145, .int .i64 y155], .map [(.int .i64 0, .fn (.func 41) [] []), (.int .i64 1, .fn (.func 42) [] []), (.int .i64 2, .fn (.func 43) [] [.ptr 6 0]), (.int .i64 3, .fn (.func 44) [] [.ptr 6 0]), (.int .i64 4, .fn (.func 45) [] [.ptr 7 0]), (.int .i64 5, .fn (.func 46) [] [.ptr 7 0]), (.int .i64 6, .fn (.func 47) [] [.ptr 7 0, .ptr 6 0]), (.int .i64 7, .fn (.func 48) [] [.ptr 7 0, .ptr 6 0])], .box [.bool ((⟨x0.Neg_, s145, y155⟩ : St57).neg_), .bool ((⟨x0.Neg_, s145, y155⟩ : St57).odd_), .int .i64 ((⟨x0.Neg_, s145, y155⟩ : St57).half_)], .box [.fn (.func 40) [] [.ptr 6 0]]]) (by kernel_rfl) ?_
                obtain ⟨y296, hy297, h298⟩ := bindS h294
                refine RJ.callG (d := (some 81)) (f := 31) (args := [.vc 2]) (args0 := [.vc 0]) (v0 := lsv (encI .u8) 1 y296) (v := lsv (encI .u8) 1 y296) (tr2 := []) (H0 := [vecL (encI .u8) 1 5 y84.1]) (H0' := [.gone]) (H2 := [.box [.bool x0.Neg_, lsv (encI .u8) 1 x0.D_, .int .i64 x0.E_], .box [.bool false, .nl, .int .i64 0], .gone, .res, .box [.bool x0.Neg_, .bool s145, .int .i64 y155], .map [(.int .i64 0, .fn (.func 41) [] []), (.int .i64 1, .fn (.func 42) [] []), (.int .i64 2, .fn (.func 43) [] [.ptr 6 0]), (.int .i64 3, .fn (.func 44) [] [.ptr 6 0]), (.int .i64 4, .fn (.func 45) [] [.ptr 7 0]), (.int .i64 5, .fn (.func 46) [] [.ptr 7 0]), (.int .i64 6, .fn (.func 47) [] [.ptr 7 0, .ptr 6 0]), (.int .i64 7, .fn (.func 48) [] [.ptr 7 0, .ptr 6 0])], .box [.bool ((⟨x0.Neg_, s145, y155⟩ : St57).neg_), .bool ((⟨x0.Neg_, s145, y155⟩ : St57).odd_), .int .i64 ((⟨x0.Neg_, s145, y155⟩ : St57).half_)], .box [.fn (.func 40) [] [.ptr 6 0]]]) [2] (by kernel_rfl) (by kernel_rfl) (by kernel_rfl) (by kernel_rfl) (by decide) (by kernel_rfl) (by kernel_rfl) (by kernel_rfl) (.cons (Le.refl _) .nil) (round_next_ok_0 hy297) (by kernel_rfl) (by kernel_rfl) (by kernel_rfl) ?_
                refine RJ.seg 1 [1, 2, 4, 8, 9, 10] (L2 := [(1, .int .i64 x1), (2, .int .i64 x2), (4, .ptr 0 0), (8, .ptr 1 0), (9, .int .i64 0), (10, lsv (encI .u8) 1 y296)]) (H2 := [.box [.bool x0.Neg_, lsv (encI .u8) 1 x0.D_, .int .i64 x0.E_], .box [.bool false, .nl, .int .i64 0], .gone, .res, .box [.bool x0.Neg_, .bool s145, .int .i64 y155], .map [(.int .i64 0, .fn (.func 41) [] []), (.int .i64 1, .fn (.func 42) [] []), (.int .i64 2, .fn (.func 43) [] [.ptr 6 0]), (.int .i64 3, .fn (.func 44) [] [.ptr 6 0]), (.int .i64 4, .fn (.func 45) [] [.ptr 7 0]), (.int .i64 5, .fn (.func 46) [] [.ptr 7 0]), (.int .i64 6, .fn (.func 47) [] [.ptr 7 0, .ptr 6 0]), (.int .i64 7, .fn (.func 48) [] [.ptr 7 0, .ptr 6 0])], .box [.bool ((⟨x0.Neg_, s145, y155⟩ : St57).neg_), .bool ((⟨x0.Neg_, s145, y155⟩ : St57).odd_), .int .i64 ((⟨x0.Neg_, s145, y155⟩ : St57).half_)], .box [.fn (.func 40) [] [.ptr 6 0]]]) (by kernel_rfl) ?_
                refine RJ.end (by kernel_rfl) ?_
                obtain rfl := Option.some.inj h298
                refine PJ.wk (Wk.sel (L2 := [(1, .int .i64 x1), (2, .int .i64 x2), (4, .ptr 0 0), (8, .ptr 1 0), (9, .int .i64 0), (10, lsv (encI .u8) 1 y296)]) (H2 := [.box [.bool x0.Neg_, lsv (encI .u8) 1 x0.D_, .int .i64 x0.E_], .box [.bool false, .nl, .int .i64 0]]) 0 (by rw [hFH]; rfl) hFD [0, 1] (by kernel_rfl) (by kernel_rfl) (by decide) (by kernel_rfl) (by kernel_rfl) (by kernel_rfl) (by kernel_rfl)) ?_
                exact PJ.cutN [1, 2, 4, 8, 9, 10] (by kernel_rfl) (by kernel_rfl)
              · have h295 := condF hb293 h292
                refine K.condF (by kernel_rfl) ?_
                refine K.skip (by kernel_rfl) ?_
                obtain rfl := Option.some.inj h295
                refine PJ.wk (Wk.freeze 2 (n := y84.1.length) (k := 1) (e := 5) (cs := y84.1.flatMap (encI .u8)) (by kernel_rfl)) ?_
                refine PJ.wk (Wk.sel (L2 := [(1, .int .i64 x1), (2, .int .i64 x2), (4, .ptr 0 0), (8, .ptr 1 0), (9, .int .i64 0), (10, lsv (encI .u8) 1 y84.1)]) (H2 := [.box [.bool x0.Neg_, lsv (encI .u8) 1 x0.D_, .int .i64 x0.E_], .box [.bool false, .nl, .int .i64 0]]) 0 (by rw [hFH]; rfl) hFD [0, 1] (by kernel_rfl) (by kernel_rfl) (by decide) (by kernel_rfl) (by kernel_rfl) (by kernel_rfl) (by kernel_rfl)) ?_
                exact PJ.cutN [1, 2, 4, 8, 9, 10] (by kernel_rfl) (by kernel_rfl)
          · have h274 := condT hb273 h272
            have hn276 := of_decide_eq_true hb273
            refine RJ.look (some 0) (d := some 78) (ef := ⟨.fn (.func 41) [] [], [5], []⟩) (c := hitC (.int .i64 x3) [(.int .i64 0, .fn (.func 41) [] []), (.int .i64 1, .fn (.func 42) [] []), (.int .i64 2, .fn (.func 43) [] [.ptr 6 0]), (.int .i64 3, .fn (.func 44) [] [.ptr 6 0]), (.int .i64 4, .fn (.func 45) [] [.ptr 7 0]), (.int .i64 5, .fn (.func 46) [] [.ptr 7 0]), (.int .i64 6, .fn (.func 47) [] [.ptr 7 0, .ptr 6 0]), (.int .i64 7, .fn (.func 48) [] [.ptr 7 0, .ptr 6 0])] 0) (tr2 := []) (by kernel_rfl) (by simp [hitC, missC, sameB, sameE, hn276]) ?_
            obtain ⟨y277, hy278, h279⟩ := bindS h274
            refine RJ.call0 (d := (some 79)) (f := 41) (args := []) (v := .bool y277) (tr2 := []) (by kernel_rfl) (by kernel_rfl) .nil (round_ways_2_ok hy278) (by kernel_rfl) ?_
            refine RJ.end (by kernel_rfl) ?_
            refine PJ.next ?_
            refine J.caseB 79 (b := y277) (by kernel_rfl) (fun hb280 => ?_) (fun hb280 => ?_)
            · have h281 := condT hb280 h279
              refine K.condT (by kernel_rfl) ?_
              refine K.region (by kernel_rfl) ?_
              refine RJ.seg 1 [1, 2, 4, 8, 9, 10, 80] (L2 := [(1, .int .i64 x1), (2, .int .i64 x2), (4, .ptr 0 0), (8, .ptr 1 0), (9, .int .i64 0), (10, .vc 2), (80, .vc 2)]) (H2 := [.box [.bool x0.Neg_, lsv (encI .u8) 1 x0.D_, .int .i64 x0.E_], .box [.bool false, .nl, .int .i64 0], vecL (encI .u8) 1 5 y84.1, .res, .box [.bool x0.Neg_, .bool s145, .int .i64 y155], .map [(.int .i64 0, .fn (.func 41) [] []), (.int .i64 1, .fn (.func 42) [] []), (.int .i64 2, .fn (.func 43) [] [.ptr 6 0]), (.int .i64 3, .fn (.func 44) [] [.ptr 6 0]), (.int .i64 4, .fn (.func 45) [] [.ptr 7 0]), (.int .i64 5, .fn (.func 46) [] [.ptr 7 0]), (.int .i64 6, .fn (.func 47) [] [.ptr 7 0, .ptr 6 0]), (.int .i64 7, .fn (.func 48) [] [.ptr 7 0, .ptr 6 0])], .box [.bool ((⟨x0.Neg_, s145, y155⟩ : St57).neg_), .bool ((⟨x0.Neg_, s145, y155⟩ : St57).odd_), .int .i64 ((⟨x0.Neg_, s145, y155⟩ : St57).half_)], .box [.fn (.func 40) [] [.ptr 6 0]]]) (by kernel_rfl) ?_
              obtain ⟨y283, hy284, h285⟩ := bindS h281
              refine RJ.callG (d := (some 81)) (f := 31) (args := [.vc 2]) (args0 := [.vc 0]) (v0 := lsv (encI .u8) 1 y283) (v := lsv (encI .u8) 1 y283) (tr2 := []) (H0 := [vecL (encI .u8) 1 5 y84.1]) (H0' := [.gone]) (H2 := [.box [.bool x0.Neg_, lsv (encI .u8) 1 x0.D_, .int .i64 x0.E_], .box [.bool false, .nl, .int .i64 0], .gone, .res, .box [.bool x0.Neg_, .bool s145, .int .i64 y155], .map [(.int .i64 0, .fn (.func 41) [] []), (.int .i64 1, .fn (.func 42) [] []), (.int .i64 2, .fn (.func 43) [] [.ptr 6 0]), (.int .i64 3, .fn (.func 44) [] [.ptr 6 0]), (.int .i64 4, .fn (.func 45) [] [.ptr 7 0]), (.int .i64 5, .fn (.func 46) [] [.ptr 7 0]), (.int .i64 6, .fn (.func 47) [] [.ptr 7 0, .ptr 6 0]), (.int .i64 7, .fn (.func 48) [] [.ptr 7 0, .ptr 6 0])], .box [.bool ((⟨x0.Neg_, s145, y155⟩ : St57).neg_), .bool ((⟨x0.Neg_, s145, y155⟩ : St57).odd_), .int .i64 ((⟨x0.Neg_, s145, y155⟩ : St57).half_)], .box [.fn (.func 40) [] [.ptr 6 0]]]) [2] (by kernel_rfl) (by kernel_rfl) (by kernel_rfl) (by kernel_rfl) (by decide) (by kernel_rfl) (by kernel_rfl) (by kernel_rfl) (.cons (Le.refl _) .nil) (round_next_ok_0 hy284) (by kernel_rfl) (by kernel_rfl) (by kernel_rfl) ?_
              refine RJ.seg 1 [1, 2, 4, 8, 9, 10] (L2 := [(1, .int .i64 x1), (2, .int .i64 x2), (4, .ptr 0 0), (8, .ptr 1 0), (9, .int .i64 0), (10, lsv (encI .u8) 1 y283)]) (H2 := [.box [.bool x0.Neg_, lsv (encI .u8) 1 x0.D_, .int .i64 x0.E_], .box [.bool false, .nl, .int .i64 0], .gone, .res, .box [.bool x0.Neg_, .bool s145, .int .i64 y155], .map [(.int .i64 0, .fn (.func 41) [] []), (.int .i64 1, .fn (.func 42) [] []), (.int .i64 2, .fn (.func 43) [] [.ptr 6 0]), (.int .i64 3, .fn (.func 44) [] [.ptr 6 0]), (.int .i64 4, .fn (.func 45) [] [.ptr 7 0]), (.int .i64 5, .fn (.func 46) [] [.ptr 7 0]), (.int .i64 6, .fn (.func 47) [] [.ptr 7 0, .ptr 6 0]), (.int .i64 7, .fn (.func 48) [] [.ptr 7 0, .ptr 6 0])], .box [.bool ((⟨x0.Neg_, s145, y155⟩ : St57).neg_), .bool ((⟨x0.Neg_, s145, y155⟩ : St57).odd_), .int .i64 ((⟨x0.Neg_, s145, y155⟩ : St57).half_)], .box [.fn (.func 40) [] [.ptr 6 0]]]) (by kernel_rfl) ?_
              refine RJ.end (by kernel_rfl) ?_
              obtain rfl := Option.some.inj h285
              refine PJ.wk (Wk.sel (L2 := [(1, .int .i64 x1), (2, .int .i64 x2), (4, .ptr 0 0), (8, .ptr 1 0), (9, .int .i64 0), (10, lsv (encI .u8) 1 y283)]) (H2 := [.box [.bool x0.Neg_, lsv (encI .u8) 1 x0.D_, .int .i64 x0.E_], .box [.bool false, .nl, .int .i64 0]]) 0 (by rw [hFH]; rfl) hFD [0, 1] (by kernel_rfl) (by kernel_rfl) (by decide) (by kernel_rfl) (by kernel_rfl) (by kernel_rfl) (by kernel_rfl)) ?_
              exact PJ.cutN [1, 2, 4, 8, 9, 10] (by kernel_rfl) (by kernel_rfl)
            · have h282 := condF hb280 h279
              refine K.condF (by kernel_rfl) ?_
              refine K.skip (by kernel_rfl) ?_
              obtain rfl := Option.some.inj h282
              refine PJ.wk (Wk.freeze 2 (n := y84.1.length) (k := 1) (e := 5) (cs := y84.1.flatMap (encI .u8)) (by kernel_rfl)) ?_
              refine PJ.wk (Wk.sel (L2 := [(1, .int .i64 x1), (2, .int .i64 x2), (4, .ptr 0 0), (8, .ptr 1 0), (9, .int .i64 0), (10, lsv (encI .u8) 1 y84.1)]) (H2 := [.box [.bool x0.Neg_, lsv (encI .u8) 1 x0.D_, .int .i64 x0.E_], .box [.bool false, .nl, .int .i64 0]]) 0 (by rw [hFH]; rfl) hFD [0, 1] (by kernel_rfl) (by kernel_rfl) (by decide) (by kernel_rfl) (by kernel_rfl) (by kernel_rfl) (by kernel_rfl)) ?_
              exact PJ.cutN [1, 2, 4, 8, 9, 10] (by kernel_rfl) (by kernel_rfl)
        · refine K.seq (by kernel_rfl) ?_
          refine J.keep [1, 2, 4, 8, 9, 10] (L2 := [(1, .int .i64 x1), (2, .int .i64 x2), (4, .ptr 0 0), (8, .ptr 1 0), (9, .int .i64 0), (10, lsv (encI .u8) 1 s265)]) (by kernel_rfl) ?_
          refine K.draw (by kernel_rfl) (by kernel_rfl) (by kernel_rfl) (H2 := [.box [.bool x0.Neg_, lsv (encI .u8) 1 x0.D_, .int .i64 x0.E_], .box [.bool false, .nl, .int .i64 0], .res, .res]) (by kernel_rfl) (n := 2) (by kernel_rfl) ?_
          refine RJ.segD 4 (tr2 := [([], []), ([0, 1], []), ([], []), ([], [])]) (L2 := [(85, .int .i64 x1), (84, lsv (encI .u8) 1 s265), (83, .bool x0.Neg_), (82, .ptr 0 0), (1, .int .i64 x1), (2, .int .i64 x2), (4, .ptr 0 0), (8, .ptr 1 0), (9, .int .i64 0), (10, lsv (encI .u8) 1 s265)]) (H2 := [.box [.bool x0.Neg_, lsv (encI .u8) 1 x0.D_, .int .i64 x0.E_], .box [.bool false, .nl, .int .i64 0], .res, .res]) (by kernel_rfl) ?_
          obtain ⟨y377, hy378, h379⟩ := bindS h269
          refine RJ.call0 (d := (some 86)) (f := 32) (args := [lsv (encI .u8) 1 s265, .int .i64 x1]) (v := lsv (encI .u8) 1 y377) (tr2 := [([], []), ([0, 1], []), ([], []), ([], []), ([], [4, 5])]) (by kernel_rfl) (by kernel_rfl) (.cons (Le.refl _) (.cons (Le.refl _) .nil)) (round_times_ok hy378) (by kernel_rfl) ?_
          refine RJ.segD 1 (tr2 := [([], []), ([0, 1], []), ([], []), ([], []), ([], [4, 5]), ([], [])]) (L2 := [(87, .int .i64 x2), (86, lsv (encI .u8) 1 y377), (85, .int .i64 x1), (84, lsv (encI .u8) 1 s265), (83, .bool x0.Neg_), (82, .ptr 0 0), (1, .int .i64 x1), (2, .int .i64 x2), (4, .ptr 0 0), (8, .ptr 1 0), (9, .int .i64 0), (10, lsv (encI .u8) 1 s265)]) (H2 := [.box [.bool x0.Neg_, lsv (encI .u8) 1 x0.D_, .int .i64 x0.E_], .box [.bool false, .nl, .int .i64 0], .res, .res]) (by kernel_rfl) ?_
          obtain ⟨y380, hy381, h382⟩ := bindS h379
          refine RJ.call0 (d := (some 88)) (f := 28) (args := [.bool x0.Neg_, lsv (encI .u8) 1 y377, .int .i64 x2]) (v := .tup [.agg [.bool y380.1.Neg_, lsv (encI .u8) 1 y380.1.D_, .int .i64 y380.1.E_], .int .i64 y380.2]) (tr2 := [([], []), ([0, 1], []), ([], []), ([], []), ([], [4, 5]), ([], []), ([], [6, 7])]) (by kernel_rfl) (by kernel_rfl) (.cons (Le.refl _) (.cons (Le.refl _) (.cons (Le.refl _) .nil))) (dec_Norm_ok hy381) (by kernel_rfl) ?_
          refine RJ.segD 4 (tr2 := [([], []), ([0, 1], []), ([], []), ([], []), ([], [4, 5]), ([], []), ([], [6, 7]), ([], []), ([], []), ([2, 3], [2]), ([], [])]) (L2 := [(9, .int .i64 y380.2), (90, .int .i64 y380.2), (89, .agg [.bool y380.1.Neg_, lsv (encI .u8) 1 y380.1.D_, .int .i64 y380.1.E_]), (88, .tup [.agg [.bool y380.1.Neg_, lsv (encI .u8) 1 y380.1.D_, .int .i64 y380.1.E_], .int .i64 y380.2]), (87, .int .i64 x2), (86, lsv (encI .u8) 1 y377), (85, .int .i64 x1), (84, lsv (encI .u8) 1 s265), (83, .bool x0.Neg_), (82, .ptr 0 0), (1, .int .i64 x1), (2, .int .i64 x2), (4, .ptr 0 0), (8, .ptr 1 0), (9, .int .i64 0), (10, lsv (encI .u8) 1 s265)]) (H2 := [.box [.bool x0.Neg_, lsv (encI .u8) 1 x0.D_, .int .i64 x0.E_], .box [.bool y380.1.Neg_, lsv (encI .u8) 1 y380.1.D_, .int .i64 y380.1.E_], .res, .res]) (by kernel_rfl) ?_
          refine RJ.end (by kernel_rfl) ?_
          refine PJ.next ?_
          refine K.ret (by kernel_rfl) ?_
          obtain rfl := Option.some.inj h382
          exact K.ret0 (.inr rfl) hFn hFH hFD (by kernel_rfl) (by kernel_rfl) (by kernel_rfl)

def round_To (x0 : St23) (x1 : Int) (x2 : Int) : Option (St23 × Int) :=
  (Option.bind (round_Inc x0 1 x1 x2) fun y1 => (some (y1.1, y1.2)))
theorem round_To_ok {x0 : St23} {x1 : Int} {x2 : Int} {r : St23 × Int} (h : round_To x0 x1 x2 = some r) : SC Try.prog 19 [.agg [.bool x0.Neg_, lsv (encI .u8) 1 x0.D_, .int .i64 x0.E_], .int .i64 x1, .int .i64 x2] [] (.tup [.agg [.bool r.1.Neg_, lsv (encI .u8) 1 r.1.D_, .int .i64 r.1.E_], .int .i64 r.2]) [] := by
  refine K.fn (fn := Try.f19) (by kernel_rfl) (by kernel_rfl) (by kernel_rfl) (by kernel_rfl) (by kernel_rfl) (fun F hFn hFH hFD => ?_)
  unfold round_To at h
  refine K.seq (by kernel_rfl) ?_
  refine K.region (by kernel_rfl) ?_
  refine RJ.seg 3 [1, 2, 3, 6, 7] (L2 := [(1, .int .i64 x1), (2, .int .i64 x2), (3, .ptr 0 0), (6, .ptr 1 0), (7, .int .i64 0)]) (H2 := [.box [.bool x0.Neg_, lsv (encI .u8) 1 x0.D_, .int .i64 x0.E_], .box [.bool false, .nl, .int .i64 0]]) (by kernel_rfl) ?_
  refine RJ.end (by kernel_rfl) ?_
  refine PJ.next ?_
  refine K.seq (by kernel_rfl) ?_
  refine K.region (by kernel_rfl) ?_
  refine RJ.seg 3 [6, 7, 8, 9, 10] (L2 := [(6, .ptr 1 0), (7, .int .i64 0), (8, .agg [.bool x0.Neg_, lsv (encI .u8) 1 x0.D_, .int .i64 x0.E_]), (9, .int .i64 x1), (10, .int .i64 x2)]) (H2 := [.box [.bool x0.Neg_, lsv (encI .u8) 1 x0.D_, .int .i64 x0.E_], .box [.bool false, .nl, .int .i64 0]]) (by kernel_rfl) ?_
  obtain ⟨y1, hy2, h3⟩ := bindS h
  refine RJ.call0 (d := (some 11)) (f := 12) (args := [.agg [.bool x0.Neg_, lsv (encI .u8) 1 x0.D_, .int .i64 x0.E_], .int .i64 1, .int .i64 x1, .int .i64 x2]) (v := .tup [.agg [.bool y1.1.Neg_, lsv (encI .u8) 1 y1.1.D_, .int .i64 y1.1.E_], .int .i64 y1.2]) (tr2 := []) (by kernel_rfl) (by kernel_rfl) (.cons (Le.refl _) (.cons (Le.refl _) (.cons (Le.refl _) (.cons (Le.refl _) .nil)))) (round_Inc_ok hy2) (by kernel_rfl) ?_
  refine RJ.seg 4 [6, 7] (L2 := [(6, .ptr 1 0), (7, .int .i64 y1.2)]) (H2 := [.box [.bool x0.Neg_, lsv (encI .u8) 1 x0.D_, .int .i64 x0.E_], .box [.bool y1.1.Neg_, lsv (encI .u8) 1 y1.1.D_, .int .i64 y1.1.E_]]) (by kernel_rfl) ?_
  refine RJ.end (by kernel_rfl) ?_
  refine PJ.next ?_
  refine K.ret (by kernel_rfl) ?_
  obtain rfl := Option.some.inj h3
  exact K.ret0 (.inr rfl) hFn hFH hFD (by kernel_rfl) (by kernel_rfl) (by kernel_rfl)

def round_Sig (x0 : St23) (x1 : Int) (x2 : Int) : Option (St23 × Int) :=
  (Option.bind (Option.bind (bif (decide (x1 < 1)) then (some true) else (Option.bind (round_Is x2) fun y59 => (bif (!y59) then (some true) else (Option.bind (dec_Right x0) fun y65 => (some (!y65)))))) fun (s51 : Bool) => (bif s51 then (some (.inr ((⟨false, ([] : List Int), 0⟩ : St23), 1))) else (some (.inl ())))) (joinX fun (s34 : Unit) => (Option.bind (Option.bind (bif (decide ((x0.D_.length : Int) = 0)) then (some true) else (Option.bind (dec_Mag x0) fun y115 => (some ((decide (x1 > ((IntKind.wrap .i64 ((IntKind.wrap .i64 (y115 + 1000)) + 1))))))))) fun (s107 : Bool) => (bif s107 then (Option.bind (dec_Norm x0.Neg_ x0.D_ x0.E_) fun y121 => (some (.inr (y121.1, y121.2)))) else (some (.inl ())))) (joinX fun (s96 : Unit) => (Option.bind (dec_Mag x0) fun y125 => (Option.bind (round_Inc x0 1 ((IntKind.wrap .i64 ((IntKind.wrap .i64 (y125 - x1)) + 1))) x2) fun y128 => (some (y128.1, y128.2))))))))
theorem round_Sig_ok {x0 : St23} {x1 : Int} {x2 : Int} {r : St23 × Int} (h : round_Sig x0 x1 x2 = some r) : SC Try.prog 18 [.agg [.bool x0.Neg_, lsv (encI .u8) 1 x0.D_, .int .i64 x0.E_], .int .i64 x1, .int .i64 x2] [] (.tup [.agg [.bool r.1.Neg_, lsv (encI .u8) 1 r.1.D_, .int .i64 r.1.E_], .int .i64 r.2]) [] := by
  refine K.fn (fn := Try.f18) (by kernel_rfl) (by kernel_rfl) (by kernel_rfl) (by kernel_rfl) (by kernel_rfl) (fun F hFn hFH hFD => ?_)
  unfold round_Sig at h
  refine K.seq (by kernel_rfl) ?_
  refine K.region (by kernel_rfl) ?_
  refine RJ.seg 3 [1, 2, 3, 6, 7] (L2 := [(1, .int .i64 x1), (2, .int .i64 x2), (3, .ptr 0 0), (6, .ptr 1 0), (7, .int .i64 0)]) (H2 := [.box [.bool x0.Neg_, lsv (encI .u8) 1 x0.D_, .int .i64 x0.E_], .box [.bool false, .nl, .int .i64 0]]) (by kernel_rfl) ?_
  refine RJ.end (by kernel_rfl) ?_
  refine PJ.next ?_
  obtain ⟨y35, hy36, h37⟩ := bindS h
  refine K.cutX (by kernel_rfl) (fun (s34 : Unit) => ([(1, .int .i64 x1), (2, .int .i64 x2), (3, .ptr 0 0), (6, .ptr 1 0), (7, .int .i64 0)], [.box [.bool x0.Neg_, lsv (encI .u8) 1 x0.D_, .int .i64 x0.E_], .box [.bool false, .nl, .int .i64 0]])) y35 ?_ (fun s34 hs => ?_)
  · obtain ⟨s51, hy53, h55⟩ := bindS hy36
    refine K.cutN (by kernel_rfl) (fun (s51 : Bool) => ([(1, .int .i64 x1), (2, .int .i64 x2), (3, .ptr 0 0), (6, .ptr 1 0), (7, .int .i64 0), (19, .bool s51)], [.box [.bool x0.Neg_, lsv (encI .u8) 1 x0.D_, .int .i64 x0.E_], .box [.bool false, .nl, .int .i64 0]])) s51 ?_ ?_
    · refine K.region (by kernel_rfl) ?_
      refine RJ.seg 3 [1, 2, 3, 6, 7, 10] (L2 := [(1, .int .i64 x1), (2, .int .i64 x2), (3, .ptr 0 0), (6, .ptr 1 0), (7, .int .i64 0), (10, .bool (decide (x1 < 1)))]) (H2 := [.box [.bool x0.Neg_, lsv (encI .u8) 1 x0.D_, .int .i64 x0.E_], .box [.bool false, .nl, .int .i64 0]]) (by kernel_rfl) ?_
      refine RJ.caseB 10 (b := (decide (x1 < 1))) (by kernel_rfl) (fun hb56 => ?_) (fun hb56 => ?_)
      · have h57 := condT hb56 hy53
        refine RJ.seg 9 [1, 2, 3, 6, 7, 19] (L2 := [(1, .int .i64 x1), (2, .int .i64 x2), (3, .ptr 0 0), (6, .ptr 1 0), (7, .int .i64 0), (19, .bool true)]) (H2 := [.box [.bool x0.Neg_, lsv (encI .u8) 1 x0.D_, .int .i64 x0.E_], .box [.bool false, .nl, .int .i64 0]]) (by kernel_rfl) ?_
        refine RJ.end (by kernel_rfl) ?_
        obtain rfl := Option.some.inj h57
        exact PJ.cutN [1, 2, 3, 6, 7, 19] (by kernel_rfl) (by kernel_rfl)
      · have h58 := condF hb56 hy53
        refine RJ.seg 1 [1, 2, 3, 6, 7, 10, 11] (L2 := [(1, .int .i64 x1), (2, .int .i64 x2), (3, .ptr 0 0), (6, .ptr 1 0), (7, .int .i64 0), (10, .bool false), (11, .int .i64 x2)]) (H2 := [.box [.bool x0.Neg_, lsv (encI .u8) 1 x0.D_, .int .i64 x0.E_], .box [.bool false, .nl, .int .i64 0]]) (by kernel_rfl) ?_
        obtain ⟨y59, hy60, h61⟩ := bindS h58
        refine RJ.call0 (d := (some 12)) (f := 23) (args := [.int .i64 x2]) (v := .bool y59) (tr2 := []) (by kernel_rfl) (by kernel_rfl) (.cons (Le.refl _) .nil) (round_Is_ok hy60) (by kernel_rfl) ?_
        refine RJ.seg 3 [1, 2, 3, 6, 7, 15] (L2 := [(1, .int .i64 x1), (2, .int .i64 x2), (3, .ptr 0 0), (6, .ptr 1 0), (7, .int .i64 0), (15, .bool (!y59))]) (H2 := [.box [.bool x0.Neg_, lsv (encI .u8) 1 x0.D_, .int .i64 x0.E_], .box [.bool false, .nl, .int .i64 0]]) (by kernel_rfl) ?_
        refine RJ.caseB 15 (b := (!y59)) (by kernel_rfl) (fun hb62 => ?_) (fun hb62 => ?_)
        · have h63 := condT hb62 h61
          refine RJ.seg 4 [1, 2, 3, 6, 7, 19] (L2 := [(1, .int .i64 x1), (2, .int .i64 x2), (3, .ptr 0 0), (6, .ptr 1 0), (7, .int .i64 0), (19, .bool true)]) (H2 := [.box [.bool x0.Neg_, lsv (encI .u8) 1 x0.D_, .int .i64 x0.E_], .box [.bool false, .nl, .int .i64 0]]) (by kernel_rfl) ?_
          refine RJ.end (by kernel_rfl) ?_
          obtain rfl := Option.some.inj h63
          exact PJ.cutN [1, 2, 3, 6, 7, 19] (by kernel_rfl) (by kernel_rfl)
        · have h64 := condF hb62 h61
          refine RJ.seg 1 [1, 2, 3, 6, 7, 15, 16] (L2 := [(1, .int .i64 x1), (2, .int .i64 x2), (3, .ptr 0 0), (6, .ptr 1 0), (7, .int .i64 0), (15, .bool false), (16, .agg [.bool x0.Neg_, lsv (encI .u8) 1 x0.D_, .int .i64 x0.E_])]) (H2 := [.box [.bool x0.Neg_, lsv (encI .u8) 1 x0.D_, .int .i64 x0.E_], .box [.bool false, .nl, .int .i64 0]]) (by kernel_rfl) ?_
          obtain ⟨y65, hy66, h67⟩ := bindS h64
          refine RJ.call0 (d := (some 17)) (f := 25) (args := [.agg [.bool x0.Neg_, lsv (encI .u8) 1 x0.D_, .int .i64 x0.E_]]) (v := .bool y65) (tr2 := []) (by kernel_rfl) (by kernel_rfl) (.cons (Le.refl _) .nil) (dec_Right_ok hy66) (by kernel_rfl) ?_
          refine RJ.seg 2 [1, 2, 3, 6, 7, 19] (L2 := [(1, .int .i64 x1), (2, .int .i64 x2), (3, .ptr 0 0), (6, .ptr 1 0), (7, .int .i64 0), (19, .bool (!y65))]) (H2 := [.box [.bool x0.Neg_, lsv (encI .u8) 1 x0.D_, .int .i64 x0.E_], .box [.bool false, .nl, .int .i64 0]]) (by kernel_rfl) ?_
          refine RJ.end (by kernel_rfl) ?_
          obtain rfl := Option.some.inj h67
          exact PJ.cutN [1, 2, 3, 6, 7, 19] (by kernel_rfl) (by kernel_rfl)
    · refine J.caseB 19 (b := s51) (by kernel_rfl) (fun hb68 => ?_) (fun hb68 => ?_)
      · have h69 := condT hb68 h55
        refine K.condT (by kernel_rfl) ?_
        refine K.seq (by kernel_rfl) ?_
        refine K.region (by kernel_rfl) ?_
        refine RJ.seg 3 [1, 2, 3, 6, 7] (L2 := [(1, .int .i64 x1), (2, .int .i64 x2), (3, .ptr 0 0), (6, .ptr 1 0), (7, .int .i64 1)]) (H2 := [.box [.bool x0.Neg_, lsv (encI .u8) 1 x0.D_, .int .i64 x0.E_], .box [.bool false, .nl, .int .i64 0]]) (by kernel_rfl) ?_
        refine RJ.end (by kernel_rfl) ?_
        refine PJ.next ?_
        refine K.ret (by kernel_rfl) ?_
        obtain rfl := Option.some.inj h69
        have h71 := joinX_inr h37
        refine PJ.cutXr (fun e => nomatch e) ?_
        obtain rfl := Option.some.inj h71
        refine PJ.res (v1 := .tup [.agg [.bool false, .nl, .int .i64 0], .int .i64 1]) (Le.tup (.cons (Le.agg (.cons (Le.refl _) (.cons (Le.nl _) (.cons (Le.refl _) .nil)))) (.cons (Le.refl _) .nil))) ?_
        exact K.ret0 (.inr rfl) hFn hFH hFD (by kernel_rfl) (by kernel_rfl) (by kernel_rfl)
      · have h70 := condF hb68 h55
        refine K.condF (by kernel_rfl) ?_
        refine K.skip (by kernel_rfl) ?_
        obtain rfl := Option.some.inj h70
        exact PJ.cutXl [1, 2, 3, 6, 7] (by kernel_rfl) (by kernel_rfl)
  · subst hs
    have h38 := joinX_inl h37
    obtain ⟨y97, hy98, h99⟩ := bindS h38
    refine K.cutX (by kernel_rfl) (fun (s96 : Unit) => ([(1, .int .i64 x1), (2, .int .i64 x2), (3, .ptr 0 0), (6, .ptr 1 0), (7, .int .i64 0)], [.box [.bool x0.Neg_, lsv (encI .u8) 1 x0.D_, .int .i64 x0.E_], .box [.bool false, .nl, .int .i64 0]])) y97 ?_ (fun s96 hs => ?_)
    · obtain ⟨s107, hy109, h111⟩ := bindS hy98
      refine K.cutN (by kernel_rfl) (fun (s107 : Bool) => ([(1, .int .i64 x1), (2, .int .i64 x2), (3, .ptr 0 0), (6, .ptr 1 0), (7, .int .i64 0), (32, .bool s107)], [.box [.bool x0.Neg_, lsv (encI .u8) 1 x0.D_, .int .i64 x0.E_], .box [.bool false, .nl, .int .i64 0]])) s107 ?_ ?_
      · refine K.region (by kernel_rfl) ?_
        refine RJ.seg 5 [1, 2, 3, 6, 7, 25] (L2 := [(1, .int .i64 x1), (2, .int .i64 x2), (3, .ptr 0 0), (6, .ptr 1 0), (7, .int .i64 0), (25, .bool ((decide ((x0.D_.length : Int) = 0))))]) (H2 := [.box [.bool x0.Neg_, lsv (encI .u8) 1 x0.D_, .int .i64 x0.E_], .box [.bool false, .nl, .int .i64 0]]) (by kernel_rfl) ?_
        refine RJ.caseB 25 (b := (decide ((x0.D_.length : Int) = 0))) (by kernel_rfl) (fun hb112 => ?_) (fun hb112 => ?_)
        · have h113 := condT hb112 hy109
          refine RJ.seg 7 [1, 2, 3, 6, 7, 32] (L2 := [(1, .int .i64 x1), (2, .int .i64 x2), (3, .ptr 0 0), (6, .ptr 1 0), (7, .int .i64 0), (32, .bool true)]) (H2 := [.box [.bool x0.Neg_, lsv (encI .u8) 1 x0.D_, .int .i64 x0.E_], .box [.bool false, .nl, .int .i64 0]]) (by kernel_rfl) ?_
          refine RJ.end (by kernel_rfl) ?_
          obtain rfl := Option.some.inj h113
          exact PJ.cutN [1, 2, 3, 6, 7, 32] (by kernel_rfl) (by kernel_rfl)
        · have h114 := condF hb112 hy109
          refine RJ.seg 2 [1, 2, 3, 6, 7, 25, 26, 27] (L2 := [(1, .int .i64 x1), (2, .int .i64 x2), (3, .ptr 0 0), (6, .ptr 1 0), (7, .int .i64 0), (25, .bool false), (26, .int .i64 x1), (27, .agg [.bool x0.Neg_, lsv (encI .u8) 1 x0.D_, .int .i64 x0.E_])]) (H2 := [.box [.bool x0.Neg_, lsv (encI .u8) 1 x0.D_, .int .i64 x0.E_], .box [.bool false, .nl, .int .i64 0]]) (by kernel_rfl) ?_
          obtain ⟨y115, hy116, h117⟩ := bindS h114
          refine RJ.call0 (d := (some 28)) (f := 35) (args := [.agg [.bool x0.Neg_, lsv (encI .u8) 1 x0.D_, .int .i64 x0.E_]]) (v := .int .i64 y115) (tr2 := []) (by kernel_rfl) (by kernel_rfl) (.cons (Le.refl _) .nil) (dec_Mag_ok hy116) (by kernel_rfl) ?_
          refine RJ.seg 4 [1, 2, 3, 6, 7, 32] (L2 := [(1, .int .i64 x1), (2, .int .i64 x2), (3, .ptr 0 0), (6, .ptr 1 0), (7, .int .i64 0), (32, .bool ((decide (x1 > ((IntKind.wrap .i64 ((IntKind.wrap .i64 (y115 + 1000)) + 1)))))))]) (H2 := [.box [.bool x0.Neg_, lsv (encI .u8) 1 x0.D_, .int .i64 x0.E_], .box [.bool false, .nl, .int .i64 0]]) (by kernel_rfl) ?_
          refine RJ.end (by kernel_rfl) ?_
          obtain rfl := Option.some.inj h117
          exact PJ.cutN [1, 2, 3, 6, 7, 32] (by kernel_rfl) (by kernel_rfl)
      · refine J.caseB 32 (b := s107) (by kernel_rfl) (fun hb118 => ?_) (fun hb118 => ?_)
        · have h119 := condT hb118 h111
          refine K.condT (by kernel_rfl) ?_
          refine K.seq (by kernel_rfl) ?_
          refine K.region (by kernel_rfl) ?_
          refine RJ.seg 6 [1, 2, 3, 6, 7, 34, 36, 38] (L2 := [(1, .int .i64 x1), (2, .int .i64 x2), (3, .ptr 0 0), (6, .ptr 1 0), (7, .int .i64 0), (34, .bool x0.Neg_), (36, lsv (encI .u8) 1 x0.D_), (38, .int .i64 x0.E_)]) (H2 := [.box [.bool x0.Neg_, lsv (encI .u8) 1 x0.D_, .int .i64 x0.E_], .box [.bool false, .nl, .int .i64 0]]) (by kernel_rfl) ?_
          obtain ⟨y121, hy122, h123⟩ := bindS h119
          refine RJ.call0 (d := (some 39)) (f := 28) (args := [.bool x0.Neg_, lsv (encI .u8) 1 x0.D_, .int .i64 x0.E_]) (v := .tup [.agg [.bool y121.1.Neg_, lsv (encI .u8) 1 y121.1.D_, .int .i64 y121.1.E_], .int .i64 y121.2]) (tr2 := []) (by kernel_rfl) (by kernel_rfl) (.cons (Le.refl _) (.cons (Le.refl _) (.cons (Le.refl _) .nil))) (dec_Norm_ok hy122) (by kernel_rfl) ?_
          refine RJ.seg 4 [1, 2, 3, 6, 7] (L2 := [(1, .int .i64 x1), (2, .int .i64 x2), (3, .ptr 0 0), (6, .ptr 1 0), (7, .int .i64 y121.2)]) (H2 := [.box [.bool x0.Neg_, lsv (encI .u8) 1 x0.D_, .int .i64 x0.E_], .box [.bool y121.1.Neg_, lsv (encI .u8) 1 y121.1.D_, .int .i64 y121.1.E_]]) (by kernel_rfl) ?_
          refine RJ.end (by kernel_rfl) ?_
          refine PJ.next ?_
          refine K.ret (by kernel_rfl) ?_
          obtain rfl := Option.some.inj h123
          have h124 := joinX_inr h99
          refine PJ.cutXr (fun e => nomatch e) ?_
          obtain rfl := Option.some.inj h124
          exact K.ret0 (.inr rfl) hFn hFH hFD (by kernel_rfl) (by kernel_rfl) (by kernel_rfl)
        · have h120 := condF hb118 h111
          refine K.condF (by kernel_rfl) ?_
          refine K.skip (by kernel_rfl) ?_
          obtain rfl := Option.some.inj h120
          exact PJ.cutXl [1, 2, 3, 6, 7] (by kernel_rfl) (by kernel_rfl)
    · subst hs
      have h100 := joinX_inl h99
      refine K.seq (by kernel_rfl) ?_
      refine J.keep [1, 2, 3, 6, 7] (L2 := [(1, .int .i64 x1), (2, .int .i64 x2), (3, .ptr 0 0), (6, .ptr 1 0), (7, .int .i64 0)]) (by kernel_rfl) ?_
      refine K.draw (by kernel_rfl) (by kernel_rfl) (by kernel_rfl) (H2 := [.box [.bool x0.Neg_, lsv (encI .u8) 1 x0.D_, .int .i64 x0.E_], .box [.bool false, .nl, .int .i64 0], .res, .res]) (by kernel_rfl) (n := 2) (by kernel_rfl) ?_
      refine RJ.segD 2 (tr2 := [([0, 1], []), ([0, 1], [])]) (L2 := [(43, .agg [.bool x0.Neg_, lsv (encI .u8) 1 x0.D_, .int .i64 x0.E_]), (42, .agg [.bool x0.Neg_, lsv (encI .u8) 1 x0.D_, .int .i64 x0.E_]), (1, .int .i64 x1), (2, .int .i64 x2), (3, .ptr 0 0), (6, .ptr 1 0), (7, .int .i64 0)]) (H2 := [.box [.bool x0.Neg_, lsv (encI .u8) 1 x0.D_, .int .i64 x0.E_], .box [.bool false, .nl, .int .i64 0], .res, .res]) (by kernel_rfl) ?_
      obtain ⟨y125, hy126, h127⟩ := bindS h100
      refine RJ.call0 (d := (some 44)) (f := 35) (args := [.agg [.bool x0.Neg_, lsv (encI .u8) 1 x0.D_, .int .i64 x0.E_]]) (v := .int .i64 y125) (tr2 := [([0, 1], []), ([0, 1], []), ([], [4, 5])]) (by kernel_rfl) (by kernel_rfl) (.cons (Le.refl _) .nil) (dec_Mag_ok hy126) (by kernel_rfl) ?_
      refine RJ.segD 4 (tr2 := [([0, 1], []), ([0, 1], []), ([], [4, 5]), ([], []), ([], []), ([], []), ([], [])]) (L2 := [(48, .int .i64 x2), (47, .int .i64 ((IntKind.wrap .i64 ((IntKind.wrap .i64 (y125 - x1)) + 1)))), (46, .int .i64 (IntKind.wrap .i64 (y125 - x1))), (45, .int .i64 x1), (44, .int .i64 y125), (43, .agg [.bool x0.Neg_, lsv (encI .u8) 1 x0.D_, .int .i64 x0.E_]), (42, .agg [.bool x0.Neg_, lsv (encI .u8) 1 x0.D_, .int .i64 x0.E_]), (1, .int .i64 x1), (2, .int .i64 x2), (3, .ptr 0 0), (6, .ptr 1 0), (7, .int .i64 0)]) (H2 := [.box [.bool x0.Neg_, lsv (encI .u8) 1 x0.D_, .int .i64 x0.E_], .box [.bool false, .nl, .int .i64 0], .res, .res]) (by kernel_rfl) ?_
      obtain ⟨y128, hy129, h130⟩ := bindS h127
      refine RJ.call0 (d := (some 49)) (f := 12) (args := [.agg [.bool x0.Neg_, lsv (encI .u8) 1 x0.D_, .int .i64 x0.E_], .int .i64 1, .int .i64 ((IntKind.wrap .i64 ((IntKind.wrap .i64 (y125 - x1)) + 1))), .int .i64 x2]) (v := .tup [.agg [.bool y128.1.Neg_, lsv (encI .u8) 1 y128.1.D_, .int .i64 y128.1.E_], .int .i64 y128.2]) (tr2 := [([0, 1], []), ([0, 1], []), ([], [4, 5]), ([], []), ([], []), ([], []), ([], []), ([], [6, 7])]) (by kernel_rfl) (by kernel_rfl) (.cons (Le.refl _) (.cons (Le.refl _) (.cons (Le.refl _) (.cons (Le.refl _) .nil)))) (round_Inc_ok hy129) (by kernel_rfl) ?_
      refine RJ.segD 4 (tr2 := [([0, 1], []), ([0, 1], []), ([], [4, 5]), ([], []), ([], []), ([], []), ([], []), ([], [6, 7]), ([], []), ([], []), ([2, 3], [2]), ([], [])]) (L2 := [(7, .int .i64 y128.2), (51, .int .i64 y128.2), (50, .agg [.bool y128.1.Neg_, lsv (encI .u8) 1 y128.1.D_, .int .i64 y128.1.E_]), (49, .tup [.agg [.bool y128.1.Neg_, lsv (encI .u8) 1 y128.1.D_, .int .i64 y128.1.E_], .int .i64 y128.2]), (48, .int .i64 x2), (47, .int .i64 ((IntKind.wrap .i64 ((IntKind.wrap .i64 (y125 - x1)) + 1)))), (46, .int .i64 (IntKind.wrap .i64 (y125 - x1))), (45, .int .i64 x1), (44, .int .i64 y125), (43, .agg [.bool x0.Neg_, lsv (encI .u8) 1 x0.D_, .int .i64 x0.E_]), (42, .agg [.bool x0.Neg_, lsv (encI .u8) 1 x0.D_, .int .i64 x0.E_]), (1, .int .i64 x1), (2, .int .i64 x2), (3, .ptr 0 0), (6, .ptr 1 0), (7, .int .i64 0)]) (H2 := [.box [.bool x0.Neg_, lsv (encI .u8) 1 x0.D_, .int .i64 x0.E_], .box [.bool y128.1.Neg_, lsv (encI .u8) 1 y128.1.D_, .int .i64 y128.1.E_], .res, .res]) (by kernel_rfl) ?_
      refine RJ.end (by kernel_rfl) ?_
      refine PJ.next ?_
      refine K.ret (by kernel_rfl) ?_
      obtain rfl := Option.some.inj h130
      exact K.ret0 (.inr rfl) hFn hFH hFD (by kernel_rfl) (by kernel_rfl) (by kernel_rfl)

end Go.Proofs.Ytpofnipphhljeaa
