/-
  What the functions of this program come to, as functions of natives, each with the proof that it does. No conditions.
-/
import Derived.Test.YtcldeecdhdcjdaaDoorProg
import Derived.Test.YtcldeecdhdcjdaaDoorSyV
namespace Go.Proofs.YtcldeecdhdcjdaaDoor
open Go Go.Sy Go.RowKit
set_option linter.unusedVariables false
set_option linter.unusedSimpArgs false
set_option maxRecDepth 100000

structure St47 where
  Neg_ : Bool
  L_ : List Int
  E_ : Int
  N_ : Int
  M_ : Int
  deriving Inhabited, DecidableEq
def encSt47 (x : St47) : List SV := [.bool x.Neg_, lsv (encI .u8) 1 x.L_, .int .i64 x.E_, .int .u8 x.N_, .int .u8 x.M_]
theorem encSt47_len (x : St47) : (encSt47 x).length = 5 := rfl

structure St23 where
  Neg_ : Bool
  D_ : List Int
  E_ : Int
  deriving Inhabited, DecidableEq
def encSt23 (x : St23) : List SV := [.bool x.Neg_, lsv (encI .u8) 1 x.D_, .int .i64 x.E_]
theorem encSt23_len (x : St23) : (encSt23 x).length = 3 := rfl

def dec_figures (x0 : List Int) : Option (Bool) :=
  (Option.bind (loopN (fun (s45 : Int) => (bif (decide (s45 < (x0.length : Int))) then (bif inR s45 x0.length then (bif (decide ((nth x0 s45) > 9)) then (some (.inr (.inr false))) else (some (.inl (IntKind.wrap .i64 (s45 + 1))))) else none) else (some (.inr (.inl ()))))) big 0) (joinX fun (s40 : Unit) => (some true)))
theorem dec_figures_ok {x0 : List Int} {r : Bool} (h : dec_figures x0 = some r) : SC Tryd.prog 36 [lsv (encI .u8) 1 x0] [] (.bool r) [] := by
  refine K.fn (fn := Tryd.f36) (by kernel_rfl) (by kernel_rfl) (by kernel_rfl) (by kernel_rfl) (by kernel_rfl) (fun F hFn hFH hFD => ?_)
  unfold dec_figures at h
  refine K.seq (by kernel_rfl) ?_
  refine K.region (by kernel_rfl) ?_
  refine RJ.seg 1 [0, 2] (L2 := [(0, lsv (encI .u8) 1 x0), (2, .bool false)]) (H2 := []) (by kernel_rfl) ?_
  refine RJ.end (by kernel_rfl) ?_
  refine PJ.next ?_
  obtain ⟨y41, hy42, h43⟩ := bindS h
  refine K.cutX (by kernel_rfl) (fun (s40 : Unit) => ([(2, .bool false)], [])) y41 ?_ (fun s40 hs => ?_)
  · refine K.seq (by kernel_rfl) ?_
    refine K.region (by kernel_rfl) ?_
    refine RJ.seg 3 [2, 5, 6, 7] (L2 := [(2, .bool false), (5, lsv (encI .u8) 1 x0), (6, .int .i64 (x0.length : Int)), (7, .int .i64 0)]) (H2 := []) (by kernel_rfl) ?_
    refine RJ.end (by kernel_rfl) ?_
    refine PJ.next ?_
    refine K.block 0 (by kernel_rfl) ?_
    refine K.loop (by kernel_rfl) (fun (s45 : Int) => ([(2, .bool false), (5, lsv (encI .u8) 1 x0), (6, .int .i64 (x0.length : Int)), (7, .int .i64 s45)], [])) hy42 [2, 5, 6, 7] (by kernel_rfl) (by kernel_rfl) (fun s45 x71 hs70 => ?_)
    refine K.seq (by kernel_rfl) ?_
    refine K.region (by kernel_rfl) ?_
    refine RJ.seg 1 [2, 5, 6, 7, 8] (L2 := [(2, .bool false), (5, lsv (encI .u8) 1 x0), (6, .int .i64 (x0.length : Int)), (7, .int .i64 s45), (8, .bool ((decide (s45 < (x0.length : Int)))))]) (H2 := []) (by kernel_rfl) ?_
    refine RJ.end (by kernel_rfl) ?_
    refine PJ.next ?_
    refine K.seq (by kernel_rfl) ?_
    refine J.caseB 8 (b := (decide (s45 < (x0.length : Int)))) (by kernel_rfl) (fun hb72 => ?_) (fun hb72 => ?_)
    · have h73 := condT hb72 hs70
      refine K.condT (by kernel_rfl) ?_
      refine K.skip (by kernel_rfl) ?_
      refine PJ.next ?_
      refine K.seq (by kernel_rfl) ?_
      refine K.block 1 (by kernel_rfl) ?_
      refine K.seq (by kernel_rfl) ?_
      refine K.region (by kernel_rfl) ?_
      obtain ⟨hm, h75⟩ := asrt h73
      refine RJ.rel (d := (some 9)) (ef := ⟨.ep (((x0.flatMap (encI .u8)).drop ((s45 : Int).toNat * 1)).take 1), [], []⟩) (ef' := ⟨.ep ((encI .u8) (nth x0 s45)), [], []⟩) (c := inR s45 x0.length) (tr2 := []) (H2 := []) (by kernel_rfl) hm (fun hc => N.idx (encI_len .u8) hc) (by kernel_rfl) ?_
      refine RJ.seg 2 [2, 4, 5, 6, 7] (L2 := [(2, .bool false), (4, .int .u8 (nth x0 s45)), (5, lsv (encI .u8) 1 x0), (6, .int .i64 (x0.length : Int)), (7, .int .i64 s45)]) (H2 := []) (by kernel_rfl) ?_
      refine RJ.end (by kernel_rfl) ?_
      refine PJ.next ?_
      refine K.seq (by kernel_rfl) ?_
      refine K.region (by kernel_rfl) ?_
      refine RJ.seg 2 [2, 5, 6, 7, 12] (L2 := [(2, .bool false), (5, lsv (encI .u8) 1 x0), (6, .int .i64 (x0.length : Int)), (7, .int .i64 s45), (12, .bool ((decide ((nth x0 s45) > 9))))]) (H2 := []) (by kernel_rfl) ?_
      refine RJ.end (by kernel_rfl) ?_
      refine PJ.next ?_
      refine J.caseB 12 (b := (decide ((nth x0 s45) > 9))) (by kernel_rfl) (fun hb76 => ?_) (fun hb76 => ?_)
      · have h77 := condT hb76 h75
        refine K.condT (by kernel_rfl) ?_
        refine K.seq (by kernel_rfl) ?_
        refine K.region (by kernel_rfl) ?_
        refine RJ.seg 1 [2, 5, 6, 7] (L2 := [(2, .bool false), (5, lsv (encI .u8) 1 x0), (6, .int .i64 (x0.length : Int)), (7, .int .i64 s45)]) (H2 := []) (by kernel_rfl) ?_
        refine RJ.end (by kernel_rfl) ?_
        refine PJ.next ?_
        refine K.ret (by kernel_rfl) ?_
        refine PJ.blockRet ?_
        refine PJ.passRet ?_
        obtain rfl := Option.some.inj h77
        refine PJ.loopOut (fun e => nomatch e) (fun he81 => ?_)
        have h79 := congrArg some he81
        refine PJ.blockRet ?_
        obtain rfl := Option.some.inj h79
        have h80 := joinX_inr h43
        refine PJ.cutXr (fun e => nomatch e) ?_
        obtain rfl := Option.some.inj h80
        exact K.ret0 (.inr rfl) hFn hFH hFD (by kernel_rfl) (by kernel_rfl) (by kernel_rfl)
      · have h78 := condF hb76 h75
        refine K.condF (by kernel_rfl) ?_
        refine K.skip (by kernel_rfl) ?_
        refine PJ.blockNormal ?_
        refine PJ.next ?_
        refine K.region (by kernel_rfl) ?_
        refine RJ.seg 2 [2, 5, 6, 7] (L2 := [(2, .bool false), (5, lsv (encI .u8) 1 x0), (6, .int .i64 (x0.length : Int)), (7, .int .i64 (IntKind.wrap .i64 (s45 + 1)))]) (H2 := []) (by kernel_rfl) ?_
        refine RJ.end (by kernel_rfl) ?_
        obtain rfl := Option.some.inj h78
        exact PJ.loopNext [2, 5, 6, 7] (by kernel_rfl) (by kernel_rfl)
    · have h74 := condF hb72 hs70
      refine K.condF (by kernel_rfl) ?_
      refine K.exit 0 (by kernel_rfl) ?_
      refine PJ.passExit ?_
      obtain rfl := Option.some.inj h74
      refine PJ.loopOut (fun e => nomatch e) (fun he83 => ?_)
      have h82 := congrArg some he83
      refine PJ.blockOut ?_
      obtain rfl := Option.some.inj h82
      exact PJ.cutXl [2] (by kernel_rfl) (by kernel_rfl)
  · subst hs
    have h44 := joinX_inl h43
    refine K.seq (by kernel_rfl) ?_
    refine K.region (by kernel_rfl) ?_
    refine RJ.seg 1 [2] (L2 := [(2, .bool true)]) (H2 := []) (by kernel_rfl) ?_
    refine RJ.end (by kernel_rfl) ?_
    refine PJ.next ?_
    refine K.ret (by kernel_rfl) ?_
    obtain rfl := Option.some.inj h44
    exact K.ret0 (.inr rfl) hFn hFH hFD (by kernel_rfl) (by kernel_rfl) (by kernel_rfl)

def slices_Clone (x0 : List Int) : Option (List Int) :=
  (bif (Nat.beq x0.length 0) then agree (some ([] : List Int)) (bif room x0.length then (some x0) else none) else (bif room x0.length then (some x0) else none))
theorem slices_Clone_ok {x0 : List Int} {r : List Int} (h : slices_Clone x0 = some r) : SC Tryd.prog 33 [lsv (encI .u8) 1 x0] [] (lsv (encI .u8) 1 r) [] := by
  refine K.fn (fn := Tryd.f33) (by kernel_rfl) (by kernel_rfl) (by kernel_rfl) (by kernel_rfl) (by kernel_rfl) (fun F hFn hFH hFD => ?_)
  unfold slices_Clone at h
  refine K.seq (by kernel_rfl) ?_
  refine K.region (by kernel_rfl) ?_
  refine RJ.seg 1 [0, 2] (L2 := [(0, lsv (encI .u8) 1 x0), (2, .nl)]) (H2 := []) (by kernel_rfl) ?_
  refine RJ.end (by kernel_rfl) ?_
  refine PJ.next ?_
  refine K.seq (by kernel_rfl) ?_
  refine K.seq (by kernel_rfl) ?_
  refine K.region (by kernel_rfl) ?_
  refine RJ.seg 1 [0, 2, 3] (L2 := [(0, lsv (encI .u8) 1 x0), (2, .nl), (3, lsv (encI .u8) 1 x0)]) (H2 := []) (by kernel_rfl) ?_
  refine RJ.isNil (d := 4) (n := x0.length) (eq := true) (by kernel_rfl) (fun b hb3 => ?_)
  cases b
  · have h2 := agreeF h
    refine RJ.end (by kernel_rfl) ?_
    refine PJ.next ?_
    refine K.condF (by kernel_rfl) ?_
    refine K.skip (by kernel_rfl) ?_
    refine PJ.next ?_
    refine K.seq (by kernel_rfl) ?_
    refine K.region (by kernel_rfl) ?_
    refine RJ.seg 2 [2, 5, 6] (L2 := [(2, .nl), (5, .nl), (6, lsv (encI .u8) 1 x0)]) (H2 := []) (by kernel_rfl) ?_
    obtain ⟨hm, h4⟩ := asrt h2
    refine RJ.rel (d := (some 7)) (ef := ⟨.vc 0, [], [(0, .vec x0.length 1 5 (x0.flatMap (encI .u8)))]⟩) (ef' := ⟨.vc 0, [], [(0, .vec x0.length 1 5 (x0.flatMap (encI .u8)))]⟩) (c := roomB x0.length) (tr2 := []) (H2 := [vecL (encI .u8) 1 5 x0]) (by kernel_rfl) (roomB_of_room hm) (fun hc => rfl) (by kernel_rfl) ?_
    refine RJ.seg 1 [2] (L2 := [(2, .vc 0)]) (H2 := [vecL (encI .u8) 1 5 x0]) (by kernel_rfl) ?_
    refine RJ.end (by kernel_rfl) ?_
    refine PJ.next ?_
    refine K.ret (by kernel_rfl) ?_
    obtain rfl := Option.some.inj h4
    refine PJ.wk (Wk.freeze 0 (n := x0.length) (k := 1) (e := 5) (cs := x0.flatMap (encI .u8)) (by kernel_rfl)) ?_
    exact K.ret0 (.inr rfl) hFn hFH hFD (by kernel_rfl) (by kernel_rfl) (by kernel_rfl)
  · have h1 := agreeT (by rw [hb3 rfl]; rfl) h
    refine RJ.end (by kernel_rfl) ?_
    refine PJ.next ?_
    refine K.condT (by kernel_rfl) ?_
    refine K.seq (by kernel_rfl) ?_
    refine K.region (by kernel_rfl) ?_
    refine RJ.seg 1 [0, 2] (L2 := [(0, lsv (encI .u8) 1 x0), (2, .nl)]) (H2 := []) (by kernel_rfl) ?_
    refine RJ.end (by kernel_rfl) ?_
    refine PJ.next ?_
    refine K.ret (by kernel_rfl) ?_
    refine PJ.passRet ?_
    obtain rfl := Option.some.inj h1
    refine PJ.res (v1 := .nl) (Le.nl _) ?_
    exact K.ret0 (.inr rfl) hFn hFH hFD (by kernel_rfl) (by kernel_rfl) (by kernel_rfl)

def dec_Right (x0 : St23) : Option (Bool) :=
  (bif (decide ((x0.D_.length : Int) = 0)) then (some (decide (x0.E_ = 0))) else (Option.bind (Option.bind (bif (decide ((x0.D_.length : Int) > 1000)) then (some true) else (bif (decide (x0.E_ < (-1000))) then (some true) else (some (decide (x0.E_ > 1000))))) fun (s36 : Bool) => (bif s36 then (some (.inr false)) else (some (.inl ())))) (joinX fun (s25 : Unit) => (Option.bind (bif inR 0 x0.D_.length then (bif (decide (¬ (nth x0.D_ 0) = 0)) then (bif inR ((IntKind.wrap .i64 ((x0.D_.length : Int) - 1))) x0.D_.length then (bif (decide (¬ ((nth x0.D_ ((IntKind.wrap .i64 ((x0.D_.length : Int) - 1))))) = 0)) then (Option.bind (dec_figures x0.D_) fun y75 => (some y75)) else (some false)) else none) else (some false)) else none) fun (s62 : Bool) => (some s62)))))
theorem dec_Right_ok {x0 : St23} {r : Bool} (h : dec_Right x0 = some r) : SC Tryd.prog 24 [.agg [.bool x0.Neg_, lsv (encI .u8) 1 x0.D_, .int .i64 x0.E_]] [] (.bool r) [] := by
  refine K.fn (fn := Tryd.f24) (by kernel_rfl) (by kernel_rfl) (by kernel_rfl) (by kernel_rfl) (by kernel_rfl) (fun F hFn hFH hFD => ?_)
  unfold dec_Right at h
  refine K.seq (by kernel_rfl) ?_
  refine K.region (by kernel_rfl) ?_
  refine RJ.seg 2 [1, 2] (L2 := [(1, .ptr 0 0), (2, .bool false)]) (H2 := [.box [.bool x0.Neg_, lsv (encI .u8) 1 x0.D_, .int .i64 x0.E_]]) (by kernel_rfl) ?_
  refine RJ.end (by kernel_rfl) ?_
  refine PJ.next ?_
  refine K.seq (by kernel_rfl) ?_
  refine K.region (by kernel_rfl) ?_
  refine RJ.seg 4 [1, 2, 3] (L2 := [(1, .ptr 0 0), (2, .bool false), (3, .int .i64 (x0.D_.length : Int))]) (H2 := [.box [.bool x0.Neg_, lsv (encI .u8) 1 x0.D_, .int .i64 x0.E_]]) (by kernel_rfl) ?_
  refine RJ.end (by kernel_rfl) ?_
  refine PJ.next ?_
  refine K.seq (by kernel_rfl) ?_
  refine K.seq (by kernel_rfl) ?_
  refine K.region (by kernel_rfl) ?_
  refine RJ.seg 2 [1, 2, 3, 8] (L2 := [(1, .ptr 0 0), (2, .bool false), (3, .int .i64 (x0.D_.length : Int)), (8, .bool ((decide ((x0.D_.length : Int) = 0))))]) (H2 := [.box [.bool x0.Neg_, lsv (encI .u8) 1 x0.D_, .int .i64 x0.E_]]) (by kernel_rfl) ?_
  refine RJ.end (by kernel_rfl) ?_
  refine PJ.next ?_
  refine J.caseB 8 (b := (decide ((x0.D_.length : Int) = 0))) (by kernel_rfl) (fun hb1 => ?_) (fun hb1 => ?_)
  · have h2 := condT hb1 h
    refine K.condT (by kernel_rfl) ?_
    refine K.seq (by kernel_rfl) ?_
    refine K.region (by kernel_rfl) ?_
    refine RJ.seg 4 [1, 2, 3] (L2 := [(1, .ptr 0 0), (2, .bool (decide (x0.E_ = 0))), (3, .int .i64 (x0.D_.length : Int))]) (H2 := [.box [.bool x0.Neg_, lsv (encI .u8) 1 x0.D_, .int .i64 x0.E_]]) (by kernel_rfl) ?_
    refine RJ.end (by kernel_rfl) ?_
    refine PJ.next ?_
    refine K.ret (by kernel_rfl) ?_
    refine PJ.passRet ?_
    obtain rfl := Option.some.inj h2
    exact K.ret0 (.inr rfl) hFn hFH hFD (by kernel_rfl) (by kernel_rfl) (by kernel_rfl)
  · have h3 := condF hb1 h
    refine K.condF (by kernel_rfl) ?_
    refine K.skip (by kernel_rfl) ?_
    refine PJ.next ?_
    obtain ⟨y26, hy27, h28⟩ := bindS h3
    refine K.cutX (by kernel_rfl) (fun (s25 : Unit) => ([(1, .ptr 0 0), (2, .bool false), (3, .int .i64 (x0.D_.length : Int))], [.box [.bool x0.Neg_, lsv (encI .u8) 1 x0.D_, .int .i64 x0.E_]])) y26 ?_ (fun s25 hs => ?_)
    · obtain ⟨s36, hy38, h40⟩ := bindS hy27
      refine K.cutN (by kernel_rfl) (fun (s36 : Bool) => ([(1, .ptr 0 0), (2, .bool false), (3, .int .i64 (x0.D_.length : Int)), (23, .bool s36)], [.box [.bool x0.Neg_, lsv (encI .u8) 1 x0.D_, .int .i64 x0.E_]])) s36 ?_ ?_
      · refine K.region (by kernel_rfl) ?_
        refine RJ.seg 3 [1, 2, 3, 14] (L2 := [(1, .ptr 0 0), (2, .bool false), (3, .int .i64 (x0.D_.length : Int)), (14, .bool ((decide ((x0.D_.length : Int) > 1000))))]) (H2 := [.box [.bool x0.Neg_, lsv (encI .u8) 1 x0.D_, .int .i64 x0.E_]]) (by kernel_rfl) ?_
        refine RJ.caseB 14 (b := (decide ((x0.D_.length : Int) > 1000))) (by kernel_rfl) (fun hb41 => ?_) (fun hb41 => ?_)
        · have h42 := condT hb41 hy38
          refine RJ.seg 9 [1, 2, 3, 23] (L2 := [(1, .ptr 0 0), (2, .bool false), (3, .int .i64 (x0.D_.length : Int)), (23, .bool true)]) (H2 := [.box [.bool x0.Neg_, lsv (encI .u8) 1 x0.D_, .int .i64 x0.E_]]) (by kernel_rfl) ?_
          refine RJ.end (by kernel_rfl) ?_
          obtain rfl := Option.some.inj h42
          exact PJ.cutN [1, 2, 3, 23] (by kernel_rfl) (by kernel_rfl)
        · have h43 := condF hb41 hy38
          refine RJ.seg 5 [1, 2, 3, 19] (L2 := [(1, .ptr 0 0), (2, .bool false), (3, .int .i64 (x0.D_.length : Int)), (19, .bool ((decide (x0.E_ < (-1000)))))]) (H2 := [.box [.bool x0.Neg_, lsv (encI .u8) 1 x0.D_, .int .i64 x0.E_]]) (by kernel_rfl) ?_
          refine RJ.caseB 19 (b := (decide (x0.E_ < (-1000)))) (by kernel_rfl) (fun hb44 => ?_) (fun hb44 => ?_)
          · have h45 := condT hb44 h43
            refine RJ.seg 4 [1, 2, 3, 23] (L2 := [(1, .ptr 0 0), (2, .bool false), (3, .int .i64 (x0.D_.length : Int)), (23, .bool true)]) (H2 := [.box [.bool x0.Neg_, lsv (encI .u8) 1 x0.D_, .int .i64 x0.E_]]) (by kernel_rfl) ?_
            refine RJ.end (by kernel_rfl) ?_
            obtain rfl := Option.some.inj h45
            exact PJ.cutN [1, 2, 3, 23] (by kernel_rfl) (by kernel_rfl)
          · have h46 := condF hb44 h43
            refine RJ.seg 4 [1, 2, 3, 23] (L2 := [(1, .ptr 0 0), (2, .bool false), (3, .int .i64 (x0.D_.length : Int)), (23, .bool (decide (x0.E_ > 1000)))]) (H2 := [.box [.bool x0.Neg_, lsv (encI .u8) 1 x0.D_, .int .i64 x0.E_]]) (by kernel_rfl) ?_
            refine RJ.end (by kernel_rfl) ?_
            obtain rfl := Option.some.inj h46
            exact PJ.cutN [1, 2, 3, 23] (by kernel_rfl) (by kernel_rfl)
      · refine J.caseB 23 (b := s36) (by kernel_rfl) (fun hb47 => ?_) (fun hb47 => ?_)
        · have h48 := condT hb47 h40
          refine K.condT (by kernel_rfl) ?_
          refine K.seq (by kernel_rfl) ?_
          refine K.region (by kernel_rfl) ?_
          refine RJ.seg 1 [1, 2, 3] (L2 := [(1, .ptr 0 0), (2, .bool false), (3, .int .i64 (x0.D_.length : Int))]) (H2 := [.box [.bool x0.Neg_, lsv (encI .u8) 1 x0.D_, .int .i64 x0.E_]]) (by kernel_rfl) ?_
          refine RJ.end (by kernel_rfl) ?_
          refine PJ.next ?_
          refine K.ret (by kernel_rfl) ?_
          obtain rfl := Option.some.inj h48
          have h50 := joinX_inr h28
          refine PJ.cutXr (fun e => nomatch e) ?_
          obtain rfl := Option.some.inj h50
          exact K.ret0 (.inr rfl) hFn hFH hFD (by kernel_rfl) (by kernel_rfl) (by kernel_rfl)
        · have h49 := condF hb47 h40
          refine K.condF (by kernel_rfl) ?_
          refine K.skip (by kernel_rfl) ?_
          obtain rfl := Option.some.inj h49
          exact PJ.cutXl [1, 2, 3] (by kernel_rfl) (by kernel_rfl)
    · subst hs
      have h29 := joinX_inl h28
      obtain ⟨s62, hy64, h66⟩ := bindS h29
      refine K.cutN (by kernel_rfl) (fun (s62 : Bool) => ([(2, .bool s62)], [])) s62 ?_ ?_
      · refine K.region (by kernel_rfl) ?_
        refine RJ.seg 2 [1, 2, 3, 25] (L2 := [(1, .ptr 0 0), (2, .bool false), (3, .int .i64 (x0.D_.length : Int)), (25, lsv (encI .u8) 1 x0.D_)]) (H2 := [.box [.bool x0.Neg_, lsv (encI .u8) 1 x0.D_, .int .i64 x0.E_]]) (by kernel_rfl) ?_
        obtain ⟨hm, h67⟩ := asrt hy64
        refine RJ.rel (d := (some 26)) (ef := ⟨.ep (((x0.D_.flatMap (encI .u8)).drop ((0 : Int).toNat * 1)).take 1), [], []⟩) (ef' := ⟨.ep ((encI .u8) (nth x0.D_ 0)), [], []⟩) (c := inR 0 x0.D_.length) (tr2 := []) (H2 := [.box [.bool x0.Neg_, lsv (encI .u8) 1 x0.D_, .int .i64 x0.E_]]) (by kernel_rfl) hm (fun hc => N.idx (encI_len .u8) hc) (by kernel_rfl) ?_
        refine RJ.seg 3 [1, 2, 3, 29] (L2 := [(1, .ptr 0 0), (2, .bool false), (3, .int .i64 (x0.D_.length : Int)), (29, .bool ((decide (¬ (nth x0.D_ 0) = 0))))]) (H2 := [.box [.bool x0.Neg_, lsv (encI .u8) 1 x0.D_, .int .i64 x0.E_]]) (by kernel_rfl) ?_
        refine RJ.caseB 29 (b := (decide (¬ (nth x0.D_ 0) = 0))) (by kernel_rfl) (fun hb68 => ?_) (fun hb68 => ?_)
        · have h69 := condT hb68 h67
          refine RJ.seg 4 [1, 2, 29, 31, 33] (L2 := [(1, .ptr 0 0), (2, .bool false), (29, .bool true), (31, lsv (encI .u8) 1 x0.D_), (33, .int .i64 ((IntKind.wrap .i64 ((x0.D_.length : Int) - 1))))]) (H2 := [.box [.bool x0.Neg_, lsv (encI .u8) 1 x0.D_, .int .i64 x0.E_]]) (by kernel_rfl) ?_
          obtain ⟨hm, h71⟩ := asrt h69
          refine RJ.rel (d := (some 34)) (ef := ⟨.ep (((x0.D_.flatMap (encI .u8)).drop (((IntKind.wrap .i64 ((x0.D_.length : Int) - 1)) : Int).toNat * 1)).take 1), [], []⟩) (ef' := ⟨.ep ((encI .u8) (nth x0.D_ ((IntKind.wrap .i64 ((x0.D_.length : Int) - 1))))), [], []⟩) (c := inR ((IntKind.wrap .i64 ((x0.D_.length : Int) - 1))) x0.D_.length) (tr2 := []) (H2 := [.box [.bool x0.Neg_, lsv (encI .u8) 1 x0.D_, .int .i64 x0.E_]]) (by kernel_rfl) hm (fun hc => N.idx (encI_len .u8) hc) (by kernel_rfl) ?_
          refine RJ.seg 4 [1, 2, 38] (L2 := [(1, .ptr 0 0), (2, .bool false), (38, .bool ((decide (¬ ((nth x0.D_ ((IntKind.wrap .i64 ((x0.D_.length : Int) - 1))))) = 0))))]) (H2 := [.box [.bool x0.Neg_, lsv (encI .u8) 1 x0.D_, .int .i64 x0.E_]]) (by kernel_rfl) ?_
          refine RJ.caseB 38 (b := (decide (¬ ((nth x0.D_ ((IntKind.wrap .i64 ((x0.D_.length : Int) - 1))))) = 0))) (by kernel_rfl) (fun hb72 => ?_) (fun hb72 => ?_)
          · have h73 := condT hb72 h71
            refine RJ.seg 2 [2, 38, 40] (L2 := [(2, .bool false), (38, .bool true), (40, lsv (encI .u8) 1 x0.D_)]) (H2 := [.box [.bool x0.Neg_, lsv (encI .u8) 1 x0.D_, .int .i64 x0.E_]]) (by kernel_rfl) ?_
            obtain ⟨y75, hy76, h77⟩ := bindS h73
            refine RJ.call0 (d := (some 41)) (f := 36) (args := [lsv (encI .u8) 1 x0.D_]) (v := .bool y75) (tr2 := []) (by kernel_rfl) (by kernel_rfl) (.cons (Le.refl _) .nil) (dec_figures_ok hy76) (by kernel_rfl) ?_
            refine RJ.seg 2 [2] (L2 := [(2, .bool y75)]) (H2 := [.box [.bool x0.Neg_, lsv (encI .u8) 1 x0.D_, .int .i64 x0.E_]]) (by kernel_rfl) ?_
            refine RJ.end (by kernel_rfl) ?_
            obtain rfl := Option.some.inj h77
            refine PJ.wk (Wk.sel (L2 := [(2, .bool y75)]) (H2 := []) 0 (by rw [hFH]; rfl) hFD [] (by kernel_rfl) (by kernel_rfl) (by decide) (by kernel_rfl) (by kernel_rfl) (by kernel_rfl) (by kernel_rfl)) ?_
            exact PJ.cutN [2] (by kernel_rfl) (by kernel_rfl)
          · have h74 := condF hb72 h71
            refine RJ.seg 5 [2] (L2 := [(2, .bool false)]) (H2 := [.box [.bool x0.Neg_, lsv (encI .u8) 1 x0.D_, .int .i64 x0.E_]]) (by kernel_rfl) ?_
            refine RJ.end (by kernel_rfl) ?_
            obtain rfl := Option.some.inj h74
            refine PJ.wk (Wk.sel (L2 := [(2, .bool false)]) (H2 := []) 0 (by rw [hFH]; rfl) hFD [] (by kernel_rfl) (by kernel_rfl) (by decide) (by kernel_rfl) (by kernel_rfl) (by kernel_rfl) (by kernel_rfl)) ?_
            exact PJ.cutN [2] (by kernel_rfl) (by kernel_rfl)
        · have h70 := condF hb68 h67
          refine RJ.seg 14 [2] (L2 := [(2, .bool false)]) (H2 := [.box [.bool x0.Neg_, lsv (encI .u8) 1 x0.D_, .int .i64 x0.E_]]) (by kernel_rfl) ?_
          refine RJ.end (by kernel_rfl) ?_
          obtain rfl := Option.some.inj h70
          refine PJ.wk (Wk.sel (L2 := [(2, .bool false)]) (H2 := []) 0 (by rw [hFH]; rfl) hFD [] (by kernel_rfl) (by kernel_rfl) (by decide) (by kernel_rfl) (by kernel_rfl) (by kernel_rfl) (by kernel_rfl)) ?_
          exact PJ.cutN [2] (by kernel_rfl) (by kernel_rfl)
      · refine K.ret (by kernel_rfl) ?_
        obtain rfl := Option.some.inj h66
        exact K.ret0 (.inr rfl) hFn hFH hFD (by kernel_rfl) (by kernel_rfl) (by kernel_rfl)

def dec_Norm (x0 : Bool) (x1 : List Int) (x2 : Int) : Option (St23 × Int) :=
  (Option.bind (dec_figures x1) fun y1 => (bif (!y1) then (some ((⟨false, ([] : List Int), 0⟩ : St23), 1)) else (Option.bind (Option.bind (bif (decide (x2 < (-1099511627776))) then (some true) else (some (decide (x2 > 1099511627776)))) fun (s30 : Bool) => (bif s30 then (some (.inr ((⟨false, ([] : List Int), 0⟩ : St23), 11))) else (some (.inl ())))) (joinX fun (s22 : Unit) => (Option.bind (loopN (fun (s179 : Int) => (Option.bind (Option.bind (bif (decide (s179 < (x1.length : Int))) then (bif inR s179 x1.length then (some ((decide ((nth x1 s179) = 0)))) else none) else (some false)) fun (s296 : Bool) => (bif s296 then (some (.inl ())) else (some (.inr (.inr s179))))) (joinX fun (s287 : Unit) => (some (.inl (IntKind.wrap .i64 (s179 + 1))))))) big 0) fun (s174 : Int) => (Option.bind (loopN (fun (s448 : Int) => (Option.bind (Option.bind (bif (decide (s174 < s448)) then (bif inR (IntKind.wrap .i64 (s448 - 1)) x1.length then (some ((decide (((nth x1 (IntKind.wrap .i64 (s448 - 1)))) = 0)))) else none) else (some false)) fun (s565 : Bool) => (bif s565 then (some (.inl ())) else (some (.inr (.inr s448))))) (joinX fun (s556 : Unit) => (some (.inl (IntKind.wrap .i64 (s448 - 1))))))) big (x1.length : Int)) fun (s443 : Int) => (bif (decide (s174 = s443)) then (some ((⟨x0, ([] : List Int), 0⟩ : St23), 0)) else (bif inS s174 s443 x1.length then (Option.bind (slices_Clone (cut x1 s174 s443)) fun y584 => (Option.bind (dec_Right ((⟨x0, y584, (IntKind.wrap .i64 (((IntKind.wrap .i64 (x2 + (x1.length : Int)))) - s443))⟩ : St23))) fun y587 => (bif (!y587) then (some ((⟨false, ([] : List Int), 0⟩ : St23), 11)) else (some ((⟨x0, y584, (IntKind.wrap .i64 (((IntKind.wrap .i64 (x2 + (x1.length : Int)))) - s443))⟩ : St23), 0))))) else none))))))))
theorem dec_Norm_ok {x0 : Bool} {x1 : List Int} {x2 : Int} {r : St23 × Int} (h : dec_Norm x0 x1 x2 = some r) : SC Tryd.prog 22 [.bool x0, lsv (encI .u8) 1 x1, .int .i64 x2] [] (.tup [.agg [.bool r.1.Neg_, lsv (encI .u8) 1 r.1.D_, .int .i64 r.1.E_], .int .i64 r.2]) [] := by
  refine K.fn (fn := Tryd.f22) (by kernel_rfl) (by kernel_rfl) (by kernel_rfl) (by kernel_rfl) (by kernel_rfl) (fun F hFn hFH hFD => ?_)
  unfold dec_Norm at h
  refine K.seq (by kernel_rfl) ?_
  refine K.region (by kernel_rfl) ?_
  refine RJ.seg 2 [0, 1, 2, 6, 7] (L2 := [(0, .bool x0), (1, lsv (encI .u8) 1 x1), (2, .int .i64 x2), (6, .ptr 0 0), (7, .int .i64 0)]) (H2 := [.box [.bool false, .nl, .int .i64 0]]) (by kernel_rfl) ?_
  refine RJ.end (by kernel_rfl) ?_
  refine PJ.next ?_
  refine K.seq (by kernel_rfl) ?_
  refine K.seq (by kernel_rfl) ?_
  refine K.region (by kernel_rfl) ?_
  refine RJ.seg 1 [0, 1, 2, 6, 7, 11] (L2 := [(0, .bool x0), (1, lsv (encI .u8) 1 x1), (2, .int .i64 x2), (6, .ptr 0 0), (7, .int .i64 0), (11, lsv (encI .u8) 1 x1)]) (H2 := [.box [.bool false, .nl, .int .i64 0]]) (by kernel_rfl) ?_
  obtain ⟨y1, hy2, h3⟩ := bindS h
  refine RJ.call0 (d := (some 12)) (f := 36) (args := [lsv (encI .u8) 1 x1]) (v := .bool y1) (tr2 := []) (by kernel_rfl) (by kernel_rfl) (.cons (Le.refl _) .nil) (dec_figures_ok hy2) (by kernel_rfl) ?_
  refine RJ.seg 1 [0, 1, 2, 6, 7, 13] (L2 := [(0, .bool x0), (1, lsv (encI .u8) 1 x1), (2, .int .i64 x2), (6, .ptr 0 0), (7, .int .i64 0), (13, .bool (!y1))]) (H2 := [.box [.bool false, .nl, .int .i64 0]]) (by kernel_rfl) ?_
  refine RJ.end (by kernel_rfl) ?_
  refine PJ.next ?_
  refine J.caseB 13 (b := (!y1)) (by kernel_rfl) (fun hb4 => ?_) (fun hb4 => ?_)
  · have h5 := condT hb4 h3
    refine K.condT (by kernel_rfl) ?_
    refine K.seq (by kernel_rfl) ?_
    refine K.region (by kernel_rfl) ?_
    refine RJ.seg 3 [0, 1, 2, 6, 7] (L2 := [(0, .bool x0), (1, lsv (encI .u8) 1 x1), (2, .int .i64 x2), (6, .ptr 0 0), (7, .int .i64 1)]) (H2 := [.box [.bool false, .nl, .int .i64 0]]) (by kernel_rfl) ?_
    refine RJ.end (by kernel_rfl) ?_
    refine PJ.next ?_
    refine K.ret (by kernel_rfl) ?_
    refine PJ.passRet ?_
    obtain rfl := Option.some.inj h5
    refine PJ.res (v1 := .tup [.agg [.bool false, .nl, .int .i64 0], .int .i64 1]) (Le.tup (.cons (Le.agg (.cons (Le.refl _) (.cons (Le.nl _) (.cons (Le.refl _) .nil)))) (.cons (Le.refl _) .nil))) ?_
    exact K.ret0 (.inr rfl) hFn hFH hFD (by kernel_rfl) (by kernel_rfl) (by kernel_rfl)
  · have h6 := condF hb4 h3
    refine K.condF (by kernel_rfl) ?_
    refine K.skip (by kernel_rfl) ?_
    refine PJ.next ?_
    obtain ⟨y23, hy24, h25⟩ := bindS h6
    refine K.cutX (by kernel_rfl) (fun (s22 : Unit) => ([(0, .bool x0), (1, lsv (encI .u8) 1 x1), (2, .int .i64 x2), (6, .ptr 0 0), (7, .int .i64 0)], [.box [.bool false, .nl, .int .i64 0]])) y23 ?_ (fun s22 hs => ?_)
    · obtain ⟨s30, hy32, h34⟩ := bindS hy24
      refine K.cutN (by kernel_rfl) (fun (s30 : Bool) => ([(0, .bool x0), (1, lsv (encI .u8) 1 x1), (2, .int .i64 x2), (6, .ptr 0 0), (7, .int .i64 0), (20, .bool s30)], [.box [.bool false, .nl, .int .i64 0]])) s30 ?_ ?_
      · refine K.region (by kernel_rfl) ?_
        refine RJ.seg 3 [0, 1, 2, 6, 7, 17] (L2 := [(0, .bool x0), (1, lsv (encI .u8) 1 x1), (2, .int .i64 x2), (6, .ptr 0 0), (7, .int .i64 0), (17, .bool ((decide (x2 < (-1099511627776)))))]) (H2 := [.box [.bool false, .nl, .int .i64 0]]) (by kernel_rfl) ?_
        refine RJ.caseB 17 (b := (decide (x2 < (-1099511627776)))) (by kernel_rfl) (fun hb35 => ?_) (fun hb35 => ?_)
        · have h36 := condT hb35 hy32
          refine RJ.seg 3 [0, 1, 2, 6, 7, 20] (L2 := [(0, .bool x0), (1, lsv (encI .u8) 1 x1), (2, .int .i64 x2), (6, .ptr 0 0), (7, .int .i64 0), (20, .bool true)]) (H2 := [.box [.bool false, .nl, .int .i64 0]]) (by kernel_rfl) ?_
          refine RJ.end (by kernel_rfl) ?_
          obtain rfl := Option.some.inj h36
          exact PJ.cutN [0, 1, 2, 6, 7, 20] (by kernel_rfl) (by kernel_rfl)
        · have h37 := condF hb35 hy32
          refine RJ.seg 3 [0, 1, 2, 6, 7, 20] (L2 := [(0, .bool x0), (1, lsv (encI .u8) 1 x1), (2, .int .i64 x2), (6, .ptr 0 0), (7, .int .i64 0), (20, .bool (decide (x2 > 1099511627776)))]) (H2 := [.box [.bool false, .nl, .int .i64 0]]) (by kernel_rfl) ?_
          refine RJ.end (by kernel_rfl) ?_
          obtain rfl := Option.some.inj h37
          exact PJ.cutN [0, 1, 2, 6, 7, 20] (by kernel_rfl) (by kernel_rfl)
      · refine J.caseB 20 (b := s30) (by kernel_rfl) (fun hb38 => ?_) (fun hb38 => ?_)
        · have h39 := condT hb38 h34
          refine K.condT (by kernel_rfl) ?_
          refine K.seq (by kernel_rfl) ?_
          refine K.region (by kernel_rfl) ?_
          refine RJ.seg 3 [0, 1, 2, 6, 7] (L2 := [(0, .bool x0), (1, lsv (encI .u8) 1 x1), (2, .int .i64 x2), (6, .ptr 0 0), (7, .int .i64 11)]) (H2 := [.box [.bool false, .nl, .int .i64 0]]) (by kernel_rfl) ?_
          refine RJ.end (by kernel_rfl) ?_
          refine PJ.next ?_
          refine K.ret (by kernel_rfl) ?_
          obtain rfl := Option.some.inj h39
          have h41 := joinX_inr h25
          refine PJ.cutXr (fun e => nomatch e) ?_
          obtain rfl := Option.some.inj h41
          refine PJ.res (v1 := .tup [.agg [.bool false, .nl, .int .i64 0], .int .i64 11]) (Le.tup (.cons (Le.agg (.cons (Le.refl _) (.cons (Le.nl _) (.cons (Le.refl _) .nil)))) (.cons (Le.refl _) .nil))) ?_
          exact K.ret0 (.inr rfl) hFn hFH hFD (by kernel_rfl) (by kernel_rfl) (by kernel_rfl)
        · have h40 := condF hb38 h34
          refine K.condF (by kernel_rfl) ?_
          refine K.skip (by kernel_rfl) ?_
          obtain rfl := Option.some.inj h40
          exact PJ.cutXl [0, 1, 2, 6, 7] (by kernel_rfl) (by kernel_rfl)
    · subst hs
      have h26 := joinX_inl h25
      refine K.seq (by kernel_rfl) ?_
      refine K.region (by kernel_rfl) ?_
      refine RJ.seg 4 [0, 1, 2, 6, 7, 8, 9] (L2 := [(0, .bool x0), (1, lsv (encI .u8) 1 x1), (2, .int .i64 x2), (6, .ptr 0 0), (7, .int .i64 0), (8, .int .i64 0), (9, .int .i64 (x1.length : Int))]) (H2 := [.box [.bool false, .nl, .int .i64 0]]) (by kernel_rfl) ?_
      refine RJ.end (by kernel_rfl) ?_
      refine PJ.next ?_
      obtain ⟨s174, hy176, h178⟩ := bindS h26
      refine K.cutN (by kernel_rfl) (fun (s174 : Int) => ([(0, .bool x0), (1, lsv (encI .u8) 1 x1), (2, .int .i64 x2), (6, .ptr 0 0), (7, .int .i64 0), (8, .int .i64 s174), (9, .int .i64 (x1.length : Int))], [.box [.bool false, .nl, .int .i64 0]])) s174 ?_ ?_
      · refine K.block 0 (by kernel_rfl) ?_
        refine K.loop (by kernel_rfl) (fun (s179 : Int) => ([(0, .bool x0), (1, lsv (encI .u8) 1 x1), (2, .int .i64 x2), (6, .ptr 0 0), (7, .int .i64 0), (8, .int .i64 s179), (9, .int .i64 (x1.length : Int))], [.box [.bool false, .nl, .int .i64 0]])) hy176 [0, 1, 2, 6, 7, 8, 9] (by kernel_rfl) (by kernel_rfl) (fun s179 x267 hs266 => ?_)
        obtain ⟨y288, hy289, h290⟩ := bindS hs266
        refine K.cutX (by kernel_rfl) (fun (s287 : Unit) => ([(0, .bool x0), (1, lsv (encI .u8) 1 x1), (2, .int .i64 x2), (6, .ptr 0 0), (7, .int .i64 0), (8, .int .i64 s179), (9, .int .i64 (x1.length : Int))], [.box [.bool false, .nl, .int .i64 0]])) y288 ?_ (fun s287 hs => ?_)
        · obtain ⟨s296, hy298, h300⟩ := bindS hy289
          refine K.cutN (by kernel_rfl) (fun (s296 : Bool) => ([(0, .bool x0), (1, lsv (encI .u8) 1 x1), (2, .int .i64 x2), (6, .ptr 0 0), (7, .int .i64 0), (8, .int .i64 s179), (9, .int .i64 (x1.length : Int)), (33, .bool s296)], [.box [.bool false, .nl, .int .i64 0]])) s296 ?_ ?_
          · refine K.region (by kernel_rfl) ?_
            refine RJ.seg 4 [0, 1, 2, 6, 7, 8, 9, 27] (L2 := [(0, .bool x0), (1, lsv (encI .u8) 1 x1), (2, .int .i64 x2), (6, .ptr 0 0), (7, .int .i64 0), (8, .int .i64 s179), (9, .int .i64 (x1.length : Int)), (27, .bool ((decide (s179 < (x1.length : Int)))))]) (H2 := [.box [.bool false, .nl, .int .i64 0]]) (by kernel_rfl) ?_
            refine RJ.caseB 27 (b := (decide (s179 < (x1.length : Int)))) (by kernel_rfl) (fun hb301 => ?_) (fun hb301 => ?_)
            · have h302 := condT hb301 hy298
              refine RJ.seg 2 [0, 1, 2, 6, 7, 8, 9, 27, 28, 29] (L2 := [(0, .bool x0), (1, lsv (encI .u8) 1 x1), (2, .int .i64 x2), (6, .ptr 0 0), (7, .int .i64 0), (8, .int .i64 s179), (9, .int .i64 (x1.length : Int)), (27, .bool true), (28, lsv (encI .u8) 1 x1), (29, .int .i64 s179)]) (H2 := [.box [.bool false, .nl, .int .i64 0]]) (by kernel_rfl) ?_
              obtain ⟨hm, h304⟩ := asrt h302
              refine RJ.rel (d := (some 30)) (ef := ⟨.ep (((x1.flatMap (encI .u8)).drop ((s179 : Int).toNat * 1)).take 1), [], []⟩) (ef' := ⟨.ep ((encI .u8) (nth x1 s179)), [], []⟩) (c := inR s179 x1.length) (tr2 := []) (H2 := [.box [.bool false, .nl, .int .i64 0]]) (by kernel_rfl) hm (fun hc => N.idx (encI_len .u8) hc) (by kernel_rfl) ?_
              refine RJ.seg 3 [0, 1, 2, 6, 7, 8, 9, 33] (L2 := [(0, .bool x0), (1, lsv (encI .u8) 1 x1), (2, .int .i64 x2), (6, .ptr 0 0), (7, .int .i64 0), (8, .int .i64 s179), (9, .int .i64 (x1.length : Int)), (33, .bool ((decide ((nth x1 s179) = 0))))]) (H2 := [.box [.bool false, .nl, .int .i64 0]]) (by kernel_rfl) ?_
              refine RJ.end (by kernel_rfl) ?_
              obtain rfl := Option.some.inj h304
              exact PJ.cutN [0, 1, 2, 6, 7, 8, 9, 33] (by kernel_rfl) (by kernel_rfl)
            · have h303 := condF hb301 hy298
              refine RJ.seg 6 [0, 1, 2, 6, 7, 8, 9, 33] (L2 := [(0, .bool x0), (1, lsv (encI .u8) 1 x1), (2, .int .i64 x2), (6, .ptr 0 0), (7, .int .i64 0), (8, .int .i64 s179), (9, .int .i64 (x1.length : Int)), (33, .bool false)]) (H2 := [.box [.bool false, .nl, .int .i64 0]]) (by kernel_rfl) ?_
              refine RJ.end (by kernel_rfl) ?_
              obtain rfl := Option.some.inj h303
              exact PJ.cutN [0, 1, 2, 6, 7, 8, 9, 33] (by kernel_rfl) (by kernel_rfl)
          · refine J.caseB 33 (b := s296) (by kernel_rfl) (fun hb305 => ?_) (fun hb305 => ?_)
            · have h306 := condT hb305 h300
              refine K.condT (by kernel_rfl) ?_
              refine K.skip (by kernel_rfl) ?_
              obtain rfl := Option.some.inj h306
              exact PJ.cutXl [0, 1, 2, 6, 7, 8, 9] (by kernel_rfl) (by kernel_rfl)
            · have h307 := condF hb305 h300
              refine K.condF (by kernel_rfl) ?_
              refine K.exit 0 (by kernel_rfl) ?_
              obtain rfl := Option.some.inj h307
              have h308 := joinX_inr h290
              refine PJ.cutXr (fun e => nomatch e) ?_
              obtain rfl := Option.some.inj h308
              refine PJ.loopOut (fun e => nomatch e) (fun he310 => ?_)
              have h309 := congrArg some he310
              refine PJ.blockOut ?_
              obtain rfl := Option.some.inj h309
              exact PJ.cutN [0, 1, 2, 6, 7, 8, 9] (by kernel_rfl) (by kernel_rfl)
        · subst hs
          have h291 := joinX_inl h290
          refine K.block 1 (by kernel_rfl) ?_
          refine K.region (by kernel_rfl) ?_
          refine RJ.seg 3 [0, 1, 2, 6, 7, 8, 9] (L2 := [(0, .bool x0), (1, lsv (encI .u8) 1 x1), (2, .int .i64 x2), (6, .ptr 0 0), (7, .int .i64 0), (8, .int .i64 (IntKind.wrap .i64 (s179 + 1))), (9, .int .i64 (x1.length : Int))]) (H2 := [.box [.bool false, .nl, .int .i64 0]]) (by kernel_rfl) ?_
          refine RJ.end (by kernel_rfl) ?_
          refine PJ.blockNormal ?_
          obtain rfl := Option.some.inj h291
          exact PJ.loopNext [0, 1, 2, 6, 7, 8, 9] (by kernel_rfl) (by kernel_rfl)
      · obtain ⟨s443, hy445, h447⟩ := bindS h178
        refine K.cutN (by kernel_rfl) (fun (s443 : Int) => ([(0, .bool x0), (1, lsv (encI .u8) 1 x1), (2, .int .i64 x2), (6, .ptr 0 0), (7, .int .i64 0), (8, .int .i64 s174), (9, .int .i64 s443)], [.box [.bool false, .nl, .int .i64 0]])) s443 ?_ ?_
        · refine K.block 2 (by kernel_rfl) ?_
          refine K.loop (by kernel_rfl) (fun (s448 : Int) => ([(0, .bool x0), (1, lsv (encI .u8) 1 x1), (2, .int .i64 x2), (6, .ptr 0 0), (7, .int .i64 0), (8, .int .i64 s174), (9, .int .i64 s448)], [.box [.bool false, .nl, .int .i64 0]])) hy445 [0, 1, 2, 6, 7, 8, 9] (by kernel_rfl) (by kernel_rfl) (fun s448 x536 hs535 => ?_)
          obtain ⟨y557, hy558, h559⟩ := bindS hs535
          refine K.cutX (by kernel_rfl) (fun (s556 : Unit) => ([(0, .bool x0), (1, lsv (encI .u8) 1 x1), (2, .int .i64 x2), (6, .ptr 0 0), (7, .int .i64 0), (8, .int .i64 s174), (9, .int .i64 s448)], [.box [.bool false, .nl, .int .i64 0]])) y557 ?_ (fun s556 hs => ?_)
          · obtain ⟨s565, hy567, h569⟩ := bindS hy558
            refine K.cutN (by kernel_rfl) (fun (s565 : Bool) => ([(0, .bool x0), (1, lsv (encI .u8) 1 x1), (2, .int .i64 x2), (6, .ptr 0 0), (7, .int .i64 0), (8, .int .i64 s174), (9, .int .i64 s448), (46, .bool s565)], [.box [.bool false, .nl, .int .i64 0]])) s565 ?_ ?_
            · refine K.region (by kernel_rfl) ?_
              refine RJ.seg 4 [0, 1, 2, 6, 7, 8, 9, 39] (L2 := [(0, .bool x0), (1, lsv (encI .u8) 1 x1), (2, .int .i64 x2), (6, .ptr 0 0), (7, .int .i64 0), (8, .int .i64 s174), (9, .int .i64 s448), (39, .bool (decide (s174 < s448)))]) (H2 := [.box [.bool false, .nl, .int .i64 0]]) (by kernel_rfl) ?_
              refine RJ.caseB 39 (b := (decide (s174 < s448))) (by kernel_rfl) (fun hb570 => ?_) (fun hb570 => ?_)
              · have h571 := condT hb570 hy567
                refine RJ.seg 3 [0, 1, 2, 6, 7, 8, 9, 39, 40, 42] (L2 := [(0, .bool x0), (1, lsv (encI .u8) 1 x1), (2, .int .i64 x2), (6, .ptr 0 0), (7, .int .i64 0), (8, .int .i64 s174), (9, .int .i64 s448), (39, .bool true), (40, lsv (encI .u8) 1 x1), (42, .int .i64 (IntKind.wrap .i64 (s448 - 1)))]) (H2 := [.box [.bool false, .nl, .int .i64 0]]) (by kernel_rfl) ?_
                obtain ⟨hm, h573⟩ := asrt h571
                refine RJ.rel (d := (some 43)) (ef := ⟨.ep (((x1.flatMap (encI .u8)).drop (((IntKind.wrap .i64 (s448 - 1)) : Int).toNat * 1)).take 1), [], []⟩) (ef' := ⟨.ep ((encI .u8) (nth x1 (IntKind.wrap .i64 (s448 - 1)))), [], []⟩) (c := inR (IntKind.wrap .i64 (s448 - 1)) x1.length) (tr2 := []) (H2 := [.box [.bool false, .nl, .int .i64 0]]) (by kernel_rfl) hm (fun hc => N.idx (encI_len .u8) hc) (by kernel_rfl) ?_
                refine RJ.seg 3 [0, 1, 2, 6, 7, 8, 9, 46] (L2 := [(0, .bool x0), (1, lsv (encI .u8) 1 x1), (2, .int .i64 x2), (6, .ptr 0 0), (7, .int .i64 0), (8, .int .i64 s174), (9, .int .i64 s448), (46, .bool ((decide (((nth x1 (IntKind.wrap .i64 (s448 - 1)))) = 0))))]) (H2 := [.box [.bool false, .nl, .int .i64 0]]) (by kernel_rfl) ?_
                refine RJ.end (by kernel_rfl) ?_
                obtain rfl := Option.some.inj h573
                exact PJ.cutN [0, 1, 2, 6, 7, 8, 9, 46] (by kernel_rfl) (by kernel_rfl)
              · have h572 := condF hb570 hy567
                refine RJ.seg 7 [0, 1, 2, 6, 7, 8, 9, 46] (L2 := [(0, .bool x0), (1, lsv (encI .u8) 1 x1), (2, .int .i64 x2), (6, .ptr 0 0), (7, .int .i64 0), (8, .int .i64 s174), (9, .int .i64 s448), (46, .bool false)]) (H2 := [.box [.bool false, .nl, .int .i64 0]]) (by kernel_rfl) ?_
                refine RJ.end (by kernel_rfl) ?_
                obtain rfl := Option.some.inj h572
                exact PJ.cutN [0, 1, 2, 6, 7, 8, 9, 46] (by kernel_rfl) (by kernel_rfl)
            · refine J.caseB 46 (b := s565) (by kernel_rfl) (fun hb574 => ?_) (fun hb574 => ?_)
              · have h575 := condT hb574 h569
                refine K.condT (by kernel_rfl) ?_
                refine K.skip (by kernel_rfl) ?_
                obtain rfl := Option.some.inj h575
                exact PJ.cutXl [0, 1, 2, 6, 7, 8, 9] (by kernel_rfl) (by kernel_rfl)
              · have h576 := condF hb574 h569
                refine K.condF (by kernel_rfl) ?_
                refine K.exit 2 (by kernel_rfl) ?_
                obtain rfl := Option.some.inj h576
                have h577 := joinX_inr h559
                refine PJ.cutXr (fun e => nomatch e) ?_
                obtain rfl := Option.some.inj h577
                refine PJ.loopOut (fun e => nomatch e) (fun he579 => ?_)
                have h578 := congrArg some he579
                refine PJ.blockOut ?_
                obtain rfl := Option.some.inj h578
                exact PJ.cutN [0, 1, 2, 6, 7, 8, 9] (by kernel_rfl) (by kernel_rfl)
          · subst hs
            have h560 := joinX_inl h559
            refine K.block 3 (by kernel_rfl) ?_
            refine K.region (by kernel_rfl) ?_
            refine RJ.seg 3 [0, 1, 2, 6, 7, 8, 9] (L2 := [(0, .bool x0), (1, lsv (encI .u8) 1 x1), (2, .int .i64 x2), (6, .ptr 0 0), (7, .int .i64 0), (8, .int .i64 s174), (9, .int .i64 (IntKind.wrap .i64 (s448 - 1)))]) (H2 := [.box [.bool false, .nl, .int .i64 0]]) (by kernel_rfl) ?_
            refine RJ.end (by kernel_rfl) ?_
            refine PJ.blockNormal ?_
            obtain rfl := Option.some.inj h560
            exact PJ.loopNext [0, 1, 2, 6, 7, 8, 9] (by kernel_rfl) (by kernel_rfl)
        · refine K.seq (by kernel_rfl) ?_
          refine K.seq (by kernel_rfl) ?_
          refine K.region (by kernel_rfl) ?_
          refine RJ.seg 3 [0, 1, 2, 6, 7, 8, 9, 51] (L2 := [(0, .bool x0), (1, lsv (encI .u8) 1 x1), (2, .int .i64 x2), (6, .ptr 0 0), (7, .int .i64 0), (8, .int .i64 s174), (9, .int .i64 s443), (51, .bool (decide (s174 = s443)))]) (H2 := [.box [.bool false, .nl, .int .i64 0]]) (by kernel_rfl) ?_
          refine RJ.end (by kernel_rfl) ?_
          refine PJ.next ?_
          refine J.caseB 51 (b := (decide (s174 = s443))) (by kernel_rfl) (fun hb580 => ?_) (fun hb580 => ?_)
          · have h581 := condT hb580 h447
            refine K.condT (by kernel_rfl) ?_
            refine K.seq (by kernel_rfl) ?_
            refine K.region (by kernel_rfl) ?_
            refine RJ.seg 4 [0, 1, 2, 6, 7, 8, 9] (L2 := [(0, .bool x0), (1, lsv (encI .u8) 1 x1), (2, .int .i64 x2), (6, .ptr 0 0), (7, .int .i64 0), (8, .int .i64 s174), (9, .int .i64 s443)]) (H2 := [.box [.bool x0, .nl, .int .i64 0]]) (by kernel_rfl) ?_
            refine RJ.end (by kernel_rfl) ?_
            refine PJ.next ?_
            refine K.ret (by kernel_rfl) ?_
            refine PJ.passRet ?_
            obtain rfl := Option.some.inj h581
            refine PJ.res (v1 := .tup [.agg [.bool x0, .nl, .int .i64 0], .int .i64 0]) (Le.tup (.cons (Le.agg (.cons (Le.refl _) (.cons (Le.nl _) (.cons (Le.refl _) .nil)))) (.cons (Le.refl _) .nil))) ?_
            exact K.ret0 (.inr rfl) hFn hFH hFD (by kernel_rfl) (by kernel_rfl) (by kernel_rfl)
          · have h582 := condF hb580 h447
            refine K.condF (by kernel_rfl) ?_
            refine K.skip (by kernel_rfl) ?_
            refine PJ.next ?_
            refine K.seq (by kernel_rfl) ?_
            refine K.region (by kernel_rfl) ?_
            refine RJ.seg 4 [1, 2, 6, 7, 9, 54, 55, 56, 57] (L2 := [(1, lsv (encI .u8) 1 x1), (2, .int .i64 x2), (6, .ptr 0 0), (7, .int .i64 0), (9, .int .i64 s443), (54, .bool x0), (55, lsv (encI .u8) 1 x1), (56, .int .i64 s174), (57, .int .i64 s443)]) (H2 := [.box [.bool false, .nl, .int .i64 0]]) (by kernel_rfl) ?_
            obtain ⟨hm, h583⟩ := asrt h582
            refine RJ.rel (d := (some 58)) (ef := ⟨.lst ((s443 : Int).toNat - (s174 : Int).toNat) 1 (((x1.flatMap (encI .u8)).take ((s443 : Int).toNat * 1)).drop ((s174 : Int).toNat * 1)), [], []⟩) (ef' := ⟨.lst (cut x1 s174 s443).length 1 ((cut x1 s174 s443).flatMap (encI .u8)), [], []⟩) (c := inS s174 s443 x1.length) (tr2 := []) (H2 := [.box [.bool false, .nl, .int .i64 0]]) (by kernel_rfl) hm (fun hc => N.slice (encI_len .u8) hc) (by kernel_rfl) ?_
            obtain ⟨y584, hy585, h586⟩ := bindS h583
            refine RJ.call0 (d := (some 59)) (f := 33) (args := [lsv (encI .u8) 1 (cut x1 s174 s443)]) (v := lsv (encI .u8) 1 y584) (tr2 := []) (by kernel_rfl) (by kernel_rfl) (.cons (Le.refl _) .nil) (slices_Clone_ok hy585) (by kernel_rfl) ?_
            refine RJ.seg 9 [6, 7, 10] (L2 := [(6, .ptr 0 0), (7, .int .i64 0), (10, .ptr 1 0)]) (H2 := [.box [.bool false, .nl, .int .i64 0], .box [.bool x0, lsv (encI .u8) 1 y584, .int .i64 ((IntKind.wrap .i64 (((IntKind.wrap .i64 (x2 + (x1.length : Int)))) - s443)))]]) (by kernel_rfl) ?_
            refine RJ.end (by kernel_rfl) ?_
            refine PJ.next ?_
            refine K.seq (by kernel_rfl) ?_
            refine K.seq (by kernel_rfl) ?_
            refine K.region (by kernel_rfl) ?_
            refine RJ.seg 1 [6, 7, 10, 67] (L2 := [(6, .ptr 0 0), (7, .int .i64 0), (10, .ptr 1 0), (67, .agg [.bool x0, lsv (encI .u8) 1 y584, .int .i64 ((IntKind.wrap .i64 (((IntKind.wrap .i64 (x2 + (x1.length : Int)))) - s443)))])]) (H2 := [.box [.bool false, .nl, .int .i64 0], .box [.bool x0, lsv (encI .u8) 1 y584, .int .i64 ((IntKind.wrap .i64 (((IntKind.wrap .i64 (x2 + (x1.length : Int)))) - s443)))]]) (by kernel_rfl) ?_
            obtain ⟨y587, hy588, h589⟩ := bindS h586
            refine RJ.call0 (d := (some 68)) (f := 24) (args := [.agg [.bool x0, lsv (encI .u8) 1 y584, .int .i64 ((IntKind.wrap .i64 (((IntKind.wrap .i64 (x2 + (x1.length : Int)))) - s443)))]]) (v := .bool y587) (tr2 := []) (by kernel_rfl) (by kernel_rfl) (.cons (Le.refl _) .nil) (dec_Right_ok hy588) (by kernel_rfl) ?_
            refine RJ.seg 1 [6, 7, 10, 69] (L2 := [(6, .ptr 0 0), (7, .int .i64 0), (10, .ptr 1 0), (69, .bool (!y587))]) (H2 := [.box [.bool false, .nl, .int .i64 0], .box [.bool x0, lsv (encI .u8) 1 y584, .int .i64 ((IntKind.wrap .i64 (((IntKind.wrap .i64 (x2 + (x1.length : Int)))) - s443)))]]) (by kernel_rfl) ?_
            refine RJ.end (by kernel_rfl) ?_
            refine PJ.next ?_
            refine J.caseB 69 (b := (!y587)) (by kernel_rfl) (fun hb590 => ?_) (fun hb590 => ?_)
            · have h591 := condT hb590 h589
              refine K.condT (by kernel_rfl) ?_
              refine K.seq (by kernel_rfl) ?_
              refine K.region (by kernel_rfl) ?_
              refine RJ.seg 3 [6, 7, 10] (L2 := [(6, .ptr 0 0), (7, .int .i64 11), (10, .ptr 1 0)]) (H2 := [.box [.bool false, .nl, .int .i64 0], .box [.bool x0, lsv (encI .u8) 1 y584, .int .i64 ((IntKind.wrap .i64 (((IntKind.wrap .i64 (x2 + (x1.length : Int)))) - s443)))]]) (by kernel_rfl) ?_
              refine RJ.end (by kernel_rfl) ?_
              refine PJ.next ?_
              refine K.ret (by kernel_rfl) ?_
              refine PJ.passRet ?_
              obtain rfl := Option.some.inj h591
              refine PJ.res (v1 := .tup [.agg [.bool false, .nl, .int .i64 0], .int .i64 11]) (Le.tup (.cons (Le.agg (.cons (Le.refl _) (.cons (Le.nl _) (.cons (Le.refl _) .nil)))) (.cons (Le.refl _) .nil))) ?_
              exact K.ret0 (.inr rfl) hFn hFH hFD (by kernel_rfl) (by kernel_rfl) (by kernel_rfl)
            · have h592 := condF hb590 h589
              refine K.condF (by kernel_rfl) ?_
              refine K.skip (by kernel_rfl) ?_
              refine PJ.next ?_
              refine K.seq (by kernel_rfl) ?_
              refine K.region (by kernel_rfl) ?_
              refine RJ.seg 3 [6, 7] (L2 := [(6, .ptr 0 0), (7, .int .i64 0)]) (H2 := [.box [.bool x0, lsv (encI .u8) 1 y584, .int .i64 ((IntKind.wrap .i64 (((IntKind.wrap .i64 (x2 + (x1.length : Int)))) - s443)))], .box [.bool x0, lsv (encI .u8) 1 y584, .int .i64 ((IntKind.wrap .i64 (((IntKind.wrap .i64 (x2 + (x1.length : Int)))) - s443)))]]) (by kernel_rfl) ?_
              refine RJ.end (by kernel_rfl) ?_
              refine PJ.next ?_
              refine K.ret (by kernel_rfl) ?_
              obtain rfl := Option.some.inj h592
              exact K.ret0 (.inr rfl) hFn hFH hFD (by kernel_rfl) (by kernel_rfl) (by kernel_rfl)

def dec_reader__eat_s0 (x0 : Int) (x1 : List UInt8) (x2 : Int) : Option (Bool × Int) :=
  (Option.bind (Option.bind (bif (decide (x2 = (x1.length : Int))) then (some true) else (bif inR x2 x1.length then (some ((decide (¬ ((((x1.getD (x2 : Int).toNat 0).toNat : Nat) : Int)) = x0)))) else none)) fun (s27 : Bool) => (bif s27 then (some (.inr (false, x2))) else (some (.inl ())))) (joinX fun (s18 : Unit) => (some (true, (IntKind.wrap .i64 (x2 + 1))))))
theorem dec_reader__eat_s0_ok {x0 : Int} {x1 : List UInt8} {x2 : Int} {r : Bool × Int} (h : dec_reader__eat_s0 x0 x1 x2 = some r) : SC Tryd.prog 38 [.ptr 0 0, .int .u8 x0] [.box [.str x1, .int .i64 x2]] (.bool r.1) [.box [.str x1, .int .i64 r.2]] := by
  refine K.fn (fn := Tryd.f38) (by kernel_rfl) (by kernel_rfl) (by kernel_rfl) (by kernel_rfl) (by kernel_rfl) (fun F hFn hFH hFD => ?_)
  unfold dec_reader__eat_s0 at h
  refine K.seq (by kernel_rfl) ?_
  refine K.region (by kernel_rfl) ?_
  refine RJ.seg 1 [0, 1, 4] (L2 := [(0, .ptr 0 0), (1, .int .u8 x0), (4, .bool false)]) (H2 := [.box [.str x1, .int .i64 x2]]) (by kernel_rfl) ?_
  refine RJ.end (by kernel_rfl) ?_
  refine PJ.next ?_
  obtain ⟨y19, hy20, h21⟩ := bindS h
  refine K.cutX (by kernel_rfl) (fun (s18 : Unit) => ([(0, .ptr 0 0), (4, .bool false)], [.box [.str x1, .int .i64 x2]])) y19 ?_ (fun s18 hs => ?_)
  · obtain ⟨s27, hy29, h31⟩ := bindS hy20
    refine K.cutN (by kernel_rfl) (fun (s27 : Bool) => ([(0, .ptr 0 0), (4, .bool false), (27, .bool s27)], [.box [.str x1, .int .i64 x2]])) s27 ?_ ?_
    · refine J.keep [0, 1, 4] (L2 := [(0, .ptr 0 0), (1, .int .u8 x0), (4, .bool false)]) (by kernel_rfl) ?_
      refine K.draw (by kernel_rfl) (by kernel_rfl) (by kernel_rfl) (H2 := [.box [.str x1, .int .i64 x2]]) (by kernel_rfl) (n := 1) (by kernel_rfl) ?_
      refine RJ.segD 11 (tr2 := [([], []), ([], []), ([], []), ([0, 1], []), ([], []), ([], []), ([], []), ([0, 1], []), ([], []), ([], []), ([], [])]) (L2 := [(15, .bool ((decide (x2 = (x1.length : Int))))), (14, .bool ((decide (x2 = (x1.length : Int))))), (13, .int .i64 (x1.length : Int)), (12, .str x1), (11, .ptr 0 0), (10, .ptr 0 0), (9, .ptr 0 0), (8, .int .i64 x2), (7, .ptr 0 1), (6, .ptr 0 0), (5, .ptr 0 0), (0, .ptr 0 0), (1, .int .u8 x0), (4, .bool false)]) (H2 := [.box [.str x1, .int .i64 x2]]) (by kernel_rfl) ?_
      refine RJ.caseB 15 (b := (decide (x2 = (x1.length : Int)))) (by kernel_rfl) (fun hb32 => ?_) (fun hb32 => ?_)
      · have h33 := condT hb32 hy29
        refine RJ.segD 12 (tr2 := [([], []), ([], []), ([], []), ([0, 1], []), ([], []), ([], []), ([], []), ([0, 1], []), ([], []), ([], []), ([], []), ([], []), ([], []), ([], []), ([], []), ([], []), ([], []), ([], []), ([], []), ([], []), ([], []), ([], []), ([], [])]) (L2 := [(27, .bool true), (26, .tup []), (25, .tup []), (24, .tup []), (23, .tup []), (22, .tup []), (21, .tup []), (20, .tup []), (19, .tup []), (18, .tup []), (17, .tup []), (16, .tup []), (15, .bool true), (15, .bool ((decide (x2 = (x1.length : Int))))), (14, .bool ((decide (x2 = (x1.length : Int))))), (13, .int .i64 (x1.length : Int)), (12, .str x1), (11, .ptr 0 0), (10, .ptr 0 0), (9, .ptr 0 0), (8, .int .i64 x2), (7, .ptr 0 1), (6, .ptr 0 0), (5, .ptr 0 0), (0, .ptr 0 0), (1, .int .u8 x0), (4, .bool false)]) (H2 := [.box [.str x1, .int .i64 x2]]) (by kernel_rfl) ?_
        refine RJ.end (by kernel_rfl) ?_
        obtain rfl := Option.some.inj h33
        exact PJ.cutN [0, 4, 27] (by kernel_rfl) (by kernel_rfl)
      · have h34 := condF hb32 hy29
        refine RJ.segD 8 (tr2 := [([], []), ([], []), ([], []), ([0, 1], []), ([], []), ([], []), ([], []), ([0, 1], []), ([], []), ([], []), ([], []), ([], []), ([], []), ([], []), ([0, 1], []), ([], []), ([], []), ([], []), ([0, 1], [])]) (L2 := [(23, .int .i64 x2), (22, .ptr 0 1), (21, .ptr 0 0), (20, .ptr 0 0), (19, .str x1), (18, .ptr 0 0), (17, .ptr 0 0), (16, .ptr 0 0), (15, .bool false), (15, .bool ((decide (x2 = (x1.length : Int))))), (14, .bool ((decide (x2 = (x1.length : Int))))), (13, .int .i64 (x1.length : Int)), (12, .str x1), (11, .ptr 0 0), (10, .ptr 0 0), (9, .ptr 0 0), (8, .int .i64 x2), (7, .ptr 0 1), (6, .ptr 0 0), (5, .ptr 0 0), (0, .ptr 0 0), (1, .int .u8 x0), (4, .bool false)]) (H2 := [.box [.str x1, .int .i64 x2]]) (by kernel_rfl) ?_
        obtain ⟨hm, h35⟩ := asrt h34
        refine RJ.rel (d := (some 24)) (ef := ⟨.int .u8 (((x1.getD (x2 : Int).toNat 0).toNat : Nat) : Int), [], []⟩) (ef' := ⟨.int .u8 (((x1.getD (x2 : Int).toNat 0).toNat : Nat) : Int), [], []⟩) (c := inR x2 x1.length) (tr2 := [([], []), ([], []), ([], []), ([0, 1], []), ([], []), ([], []), ([], []), ([0, 1], []), ([], []), ([], []), ([], []), ([], []), ([], []), ([], []), ([0, 1], []), ([], []), ([], []), ([], []), ([0, 1], []), ([], [])]) (H2 := [.box [.str x1, .int .i64 x2]]) (by kernel_rfl) hm (fun hc => rfl) (by kernel_rfl) ?_
        refine RJ.segD 3 (tr2 := [([], []), ([], []), ([], []), ([0, 1], []), ([], []), ([], []), ([], []), ([0, 1], []), ([], []), ([], []), ([], []), ([], []), ([], []), ([], []), ([0, 1], []), ([], []), ([], []), ([], []), ([0, 1], []), ([], []), ([], []), ([], []), ([], [])]) (L2 := [(27, .bool ((decide (¬ ((((x1.getD (x2 : Int).toNat 0).toNat : Nat) : Int)) = x0)))), (26, .bool ((decide (¬ ((((x1.getD (x2 : Int).toNat 0).toNat : Nat) : Int)) = x0)))), (25, .int .u8 x0), (24, .int .u8 ((((x1.getD (x2 : Int).toNat 0).toNat : Nat) : Int))), (23, .int .i64 x2), (22, .ptr 0 1), (21, .ptr 0 0), (20, .ptr 0 0), (19, .str x1), (18, .ptr 0 0), (17, .ptr 0 0), (16, .ptr 0 0), (15, .bool false), (15, .bool ((decide (x2 = (x1.length : Int))))), (14, .bool ((decide (x2 = (x1.length : Int))))), (13, .int .i64 (x1.length : Int)), (12, .str x1), (11, .ptr 0 0), (10, .ptr 0 0), (9, .ptr 0 0), (8, .int .i64 x2), (7, .ptr 0 1), (6, .ptr 0 0), (5, .ptr 0 0), (0, .ptr 0 0), (1, .int .u8 x0), (4, .bool false)]) (H2 := [.box [.str x1, .int .i64 x2]]) (by kernel_rfl) ?_
        refine RJ.end (by kernel_rfl) ?_
        obtain rfl := Option.some.inj h35
        exact PJ.cutN [0, 4, 27] (by kernel_rfl) (by kernel_rfl)
    · refine J.caseB 27 (b := s27) (by kernel_rfl) (fun hb36 => ?_) (fun hb36 => ?_)
      · have h37 := condT hb36 h31
        refine K.condT (by kernel_rfl) ?_
        refine K.seq (by kernel_rfl) ?_
        refine K.region (by kernel_rfl) ?_
        refine RJ.seg 1 [0, 4] (L2 := [(0, .ptr 0 0), (4, .bool false)]) (H2 := [.box [.str x1, .int .i64 x2]]) (by kernel_rfl) ?_
        refine RJ.end (by kernel_rfl) ?_
        refine PJ.next ?_
        refine K.ret (by kernel_rfl) ?_
        obtain rfl := Option.some.inj h37
        have h39 := joinX_inr h21
        refine PJ.cutXr (fun e => nomatch e) ?_
        obtain rfl := Option.some.inj h39
        exact K.retV (H0 := [.box [.str x1, .int .i64 x2]]) [0] (.inr rfl) hFn hFH hFD (by kernel_rfl) (v1 := .bool false) (by kernel_rfl) (by kernel_rfl) (by kernel_rfl) (by decide) (by kernel_rfl) (by kernel_rfl) (by kernel_rfl) (by kernel_rfl) (by kernel_rfl)
      · have h38 := condF hb36 h31
        refine K.condF (by kernel_rfl) ?_
        refine K.skip (by kernel_rfl) ?_
        obtain rfl := Option.some.inj h38
        exact PJ.cutXl [0, 4] (by kernel_rfl) (by kernel_rfl)
  · subst hs
    have h22 := joinX_inl h21
    refine K.seq (by kernel_rfl) ?_
    refine K.region (by kernel_rfl) ?_
    refine RJ.seg 8 [4] (L2 := [(4, .bool false)]) (H2 := [.box [.str x1, .int .i64 (IntKind.wrap .i64 (x2 + 1))]]) (by kernel_rfl) ?_
    refine RJ.end (by kernel_rfl) ?_
    refine PJ.next ?_
    refine K.seq (by kernel_rfl) ?_
    refine K.region (by kernel_rfl) ?_
    refine RJ.seg 1 [4] (L2 := [(4, .bool true)]) (H2 := [.box [.str x1, .int .i64 (IntKind.wrap .i64 (x2 + 1))]]) (by kernel_rfl) ?_
    refine RJ.end (by kernel_rfl) ?_
    refine PJ.next ?_
    refine K.ret (by kernel_rfl) ?_
    obtain rfl := Option.some.inj h22
    exact K.retV (H0 := [.box [.str x1, .int .i64 x2]]) [0] (.inr rfl) hFn hFH hFD (by kernel_rfl) (v1 := .bool true) (by kernel_rfl) (by kernel_rfl) (by kernel_rfl) (by decide) (by kernel_rfl) (by kernel_rfl) (by kernel_rfl) (by kernel_rfl) (by kernel_rfl)

def dec_reader__next_s0 (x0 : List UInt8) (x1 : Int) : Option (Int × Bool) :=
  (Option.bind (Option.bind (bif (decide (x1 = (x0.length : Int))) then (some true) else (bif inR x1 x0.length then (bif (decide (((((x0.getD (x1 : Int).toNat 0).toNat : Nat) : Int)) < 48)) then (some true) else (bif inR x1 x0.length then (some ((decide (((((x0.getD (x1 : Int).toNat 0).toNat : Nat) : Int)) > 57)))) else none)) else none)) fun (s39 : Bool) => (bif s39 then (some (.inr (0, false))) else (some (.inl ())))) (joinX fun (s26 : Unit) => (bif inR x1 x0.length then (some ((IntKind.wrap .u8 (((((x0.getD (x1 : Int).toNat 0).toNat : Nat) : Int)) - 48)), true)) else none)))
theorem dec_reader__next_s0_ok {x0 : List UInt8} {x1 : Int} {r : Int × Bool} (h : dec_reader__next_s0 x0 x1 = some r) : SC Tryd.prog 42 [.ptr 0 0] [.box [.str x0, .int .i64 x1]] (.tup [.int .u8 r.1, .bool r.2]) [.box [.str x0, .int .i64 x1]] := by
  refine K.fn (fn := Tryd.f42) (by kernel_rfl) (by kernel_rfl) (by kernel_rfl) (by kernel_rfl) (by kernel_rfl) (fun F hFn hFH hFD => ?_)
  unfold dec_reader__next_s0 at h
  refine K.seq (by kernel_rfl) ?_
  refine K.region (by kernel_rfl) ?_
  refine RJ.seg 2 [0, 2, 3] (L2 := [(0, .ptr 0 0), (2, .int .u8 0), (3, .bool false)]) (H2 := [.box [.str x0, .int .i64 x1]]) (by kernel_rfl) ?_
  refine RJ.end (by kernel_rfl) ?_
  refine PJ.next ?_
  obtain ⟨y27, hy28, h29⟩ := bindS h
  refine K.cutX (by kernel_rfl) (fun (s26 : Unit) => ([(0, .ptr 0 0), (2, .int .u8 0), (3, .bool false)], [.box [.str x0, .int .i64 x1]])) y27 ?_ (fun s26 hs => ?_)
  · obtain ⟨s39, hy41, h43⟩ := bindS hy28
    refine K.cutN (by kernel_rfl) (fun (s39 : Bool) => ([(0, .ptr 0 0), (2, .int .u8 0), (3, .bool false), (37, .bool s39)], [.box [.str x0, .int .i64 x1]])) s39 ?_ ?_
    · refine J.keep [0, 2, 3] (L2 := [(0, .ptr 0 0), (2, .int .u8 0), (3, .bool false)]) (by kernel_rfl) ?_
      refine K.draw (by kernel_rfl) (by kernel_rfl) (by kernel_rfl) (H2 := [.box [.str x0, .int .i64 x1]]) (by kernel_rfl) (n := 1) (by kernel_rfl) ?_
      refine RJ.segD 11 (tr2 := [([], []), ([], []), ([], []), ([0, 1], []), ([], []), ([], []), ([], []), ([0, 1], []), ([], []), ([], []), ([], [])]) (L2 := [(14, .bool ((decide (x1 = (x0.length : Int))))), (13, .bool ((decide (x1 = (x0.length : Int))))), (12, .int .i64 (x0.length : Int)), (11, .str x0), (10, .ptr 0 0), (9, .ptr 0 0), (8, .ptr 0 0), (7, .int .i64 x1), (6, .ptr 0 1), (5, .ptr 0 0), (4, .ptr 0 0), (0, .ptr 0 0), (2, .int .u8 0), (3, .bool false)]) (H2 := [.box [.str x0, .int .i64 x1]]) (by kernel_rfl) ?_
      refine RJ.caseB 14 (b := (decide (x1 = (x0.length : Int)))) (by kernel_rfl) (fun hb44 => ?_) (fun hb44 => ?_)
      · have h45 := condT hb44 hy41
        refine RJ.segD 23 (tr2 := [([], []), ([], []), ([], []), ([0, 1], []), ([], []), ([], []), ([], []), ([0, 1], []), ([], []), ([], []), ([], []), ([], []), ([], []), ([], []), ([], []), ([], []), ([], []), ([], []), ([], []), ([], []), ([], []), ([], []), ([], []), ([], []), ([], []), ([], []), ([], []), ([], []), ([], []), ([], []), ([], []), ([], []), ([], []), ([], [])]) (L2 := [(37, .bool true), (36, .tup []), (35, .tup []), (34, .tup []), (33, .tup []), (32, .tup []), (31, .tup []), (30, .tup []), (29, .tup []), (28, .tup []), (27, .tup []), (26, .bool true), (25, .bool true), (24, .tup []), (23, .tup []), (22, .tup []), (21, .tup []), (20, .tup []), (19, .tup []), (18, .tup []), (17, .tup []), (16, .tup []), (15, .tup []), (14, .bool true), (14, .bool ((decide (x1 = (x0.length : Int))))), (13, .bool ((decide (x1 = (x0.length : Int))))), (12, .int .i64 (x0.length : Int)), (11, .str x0), (10, .ptr 0 0), (9, .ptr 0 0), (8, .ptr 0 0), (7, .int .i64 x1), (6, .ptr 0 1), (5, .ptr 0 0), (4, .ptr 0 0), (0, .ptr 0 0), (2, .int .u8 0), (3, .bool false)]) (H2 := [.box [.str x0, .int .i64 x1]]) (by kernel_rfl) ?_
        refine RJ.end (by kernel_rfl) ?_
        obtain rfl := Option.some.inj h45
        exact PJ.cutN [0, 2, 3, 37] (by kernel_rfl) (by kernel_rfl)
      · have h46 := condF hb44 hy41
        refine RJ.segD 8 (tr2 := [([], []), ([], []), ([], []), ([0, 1], []), ([], []), ([], []), ([], []), ([0, 1], []), ([], []), ([], []), ([], []), ([], []), ([], []), ([], []), ([0, 1], []), ([], []), ([], []), ([], []), ([0, 1], [])]) (L2 := [(22, .int .i64 x1), (21, .ptr 0 1), (20, .ptr 0 0), (19, .ptr 0 0), (18, .str x0), (17, .ptr 0 0), (16, .ptr 0 0), (15, .ptr 0 0), (14, .bool false), (14, .bool ((decide (x1 = (x0.length : Int))))), (13, .bool ((decide (x1 = (x0.length : Int))))), (12, .int .i64 (x0.length : Int)), (11, .str x0), (10, .ptr 0 0), (9, .ptr 0 0), (8, .ptr 0 0), (7, .int .i64 x1), (6, .ptr 0 1), (5, .ptr 0 0), (4, .ptr 0 0), (0, .ptr 0 0), (2, .int .u8 0), (3, .bool false)]) (H2 := [.box [.str x0, .int .i64 x1]]) (by kernel_rfl) ?_
        obtain ⟨hm, h47⟩ := asrt h46
        refine RJ.rel (d := (some 23)) (ef := ⟨.int .u8 (((x0.getD (x1 : Int).toNat 0).toNat : Nat) : Int), [], []⟩) (ef' := ⟨.int .u8 (((x0.getD (x1 : Int).toNat 0).toNat : Nat) : Int), [], []⟩) (c := inR x1 x0.length) (tr2 := [([], []), ([], []), ([], []), ([0, 1], []), ([], []), ([], []), ([], []), ([0, 1], []), ([], []), ([], []), ([], []), ([], []), ([], []), ([], []), ([0, 1], []), ([], []), ([], []), ([], []), ([0, 1], []), ([], [])]) (H2 := [.box [.str x0, .int .i64 x1]]) (by kernel_rfl) hm (fun hc => rfl) (by kernel_rfl) ?_
        refine RJ.segD 3 (tr2 := [([], []), ([], []), ([], []), ([0, 1], []), ([], []), ([], []), ([], []), ([0, 1], []), ([], []), ([], []), ([], []), ([], []), ([], []), ([], []), ([0, 1], []), ([], []), ([], []), ([], []), ([0, 1], []), ([], []), ([], []), ([], []), ([], [])]) (L2 := [(26, .bool ((decide (((((x0.getD (x1 : Int).toNat 0).toNat : Nat) : Int)) < 48)))), (25, .bool ((decide (((((x0.getD (x1 : Int).toNat 0).toNat : Nat) : Int)) < 48)))), (24, .bool ((decide (((((x0.getD (x1 : Int).toNat 0).toNat : Nat) : Int)) < 48)))), (23, .int .u8 ((((x0.getD (x1 : Int).toNat 0).toNat : Nat) : Int))), (22, .int .i64 x1), (21, .ptr 0 1), (20, .ptr 0 0), (19, .ptr 0 0), (18, .str x0), (17, .ptr 0 0), (16, .ptr 0 0), (15, .ptr 0 0), (14, .bool false), (14, .bool ((decide (x1 = (x0.length : Int))))), (13, .bool ((decide (x1 = (x0.length : Int))))), (12, .int .i64 (x0.length : Int)), (11, .str x0), (10, .ptr 0 0), (9, .ptr 0 0), (8, .ptr 0 0), (7, .int .i64 x1), (6, .ptr 0 1), (5, .ptr 0 0), (4, .ptr 0 0), (0, .ptr 0 0), (2, .int .u8 0), (3, .bool false)]) (H2 := [.box [.str x0, .int .i64 x1]]) (by kernel_rfl) ?_
        refine RJ.caseB 26 (b := (decide (((((x0.getD (x1 : Int).toNat 0).toNat : Nat) : Int)) < 48))) (by kernel_rfl) (fun hb48 => ?_) (fun hb48 => ?_)
        · have h49 := condT hb48 h47
          refine RJ.segD 11 (tr2 := [([], []), ([], []), ([], []), ([0, 1], []), ([], []), ([], []), ([], []), ([0, 1], []), ([], []), ([], []), ([], []), ([], []), ([], []), ([], []), ([0, 1], []), ([], []), ([], []), ([], []), ([0, 1], []), ([], []), ([], []), ([], []), ([], []), ([], []), ([], []), ([], []), ([], []), ([], []), ([], []), ([], []), ([], []), ([], []), ([], []), ([], [])]) (L2 := [(37, .bool true), (36, .tup []), (35, .tup []), (34, .tup []), (33, .tup []), (32, .tup []), (31, .tup []), (30, .tup []), (29, .tup []), (28, .tup []), (27, .tup []), (26, .bool true), (26, .bool ((decide (((((x0.getD (x1 : Int).toNat 0).toNat : Nat) : Int)) < 48)))), (25, .bool ((decide (((((x0.getD (x1 : Int).toNat 0).toNat : Nat) : Int)) < 48)))), (24, .bool ((decide (((((x0.getD (x1 : Int).toNat 0).toNat : Nat) : Int)) < 48)))), (23, .int .u8 ((((x0.getD (x1 : Int).toNat 0).toNat : Nat) : Int))), (22, .int .i64 x1), (21, .ptr 0 1), (20, .ptr 0 0), (19, .ptr 0 0), (18, .str x0), (17, .ptr 0 0), (16, .ptr 0 0), (15, .ptr 0 0), (14, .bool false), (14, .bool ((decide (x1 = (x0.length : Int))))), (13, .bool ((decide (x1 = (x0.length : Int))))), (12, .int .i64 (x0.length : Int)), (11, .str x0), (10, .ptr 0 0), (9, .ptr 0 0), (8, .ptr 0 0), (7, .int .i64 x1), (6, .ptr 0 1), (5, .ptr 0 0), (4, .ptr 0 0), (0, .ptr 0 0), (2, .int .u8 0), (3, .bool false)]) (H2 := [.box [.str x0, .int .i64 x1]]) (by kernel_rfl) ?_
          refine RJ.end (by kernel_rfl) ?_
          obtain rfl := Option.some.inj h49
          exact PJ.cutN [0, 2, 3, 37] (by kernel_rfl) (by kernel_rfl)
        · have h50 := condF hb48 h47
          refine RJ.segD 8 (tr2 := [([], []), ([], []), ([], []), ([0, 1], []), ([], []), ([], []), ([], []), ([0, 1], []), ([], []), ([], []), ([], []), ([], []), ([], []), ([], []), ([0, 1], []), ([], []), ([], []), ([], []), ([0, 1], []), ([], []), ([], []), ([], []), ([], []), ([], []), ([], []), ([], []), ([0, 1], []), ([], []), ([], []), ([], []), ([0, 1], [])]) (L2 := [(34, .int .i64 x1), (33, .ptr 0 1), (32, .ptr 0 0), (31, .ptr 0 0), (30, .str x0), (29, .ptr 0 0), (28, .ptr 0 0), (27, .ptr 0 0), (26, .bool false), (26, .bool ((decide (((((x0.getD (x1 : Int).toNat 0).toNat : Nat) : Int)) < 48)))), (25, .bool ((decide (((((x0.getD (x1 : Int).toNat 0).toNat : Nat) : Int)) < 48)))), (24, .bool ((decide (((((x0.getD (x1 : Int).toNat 0).toNat : Nat) : Int)) < 48)))), (23, .int .u8 ((((x0.getD (x1 : Int).toNat 0).toNat : Nat) : Int))), (22, .int .i64 x1), (21, .ptr 0 1), (20, .ptr 0 0), (19, .ptr 0 0), (18, .str x0), (17, .ptr 0 0), (16, .ptr 0 0), (15, .ptr 0 0), (14, .bool false), (14, .bool ((decide (x1 = (x0.length : Int))))), (13, .bool ((decide (x1 = (x0.length : Int))))), (12, .int .i64 (x0.length : Int)), (11, .str x0), (10, .ptr 0 0), (9, .ptr 0 0), (8, .ptr 0 0), (7, .int .i64 x1), (6, .ptr 0 1), (5, .ptr 0 0), (4, .ptr 0 0), (0, .ptr 0 0), (2, .int .u8 0), (3, .bool false)]) (H2 := [.box [.str x0, .int .i64 x1]]) (by kernel_rfl) ?_
          obtain ⟨hm, h51⟩ := asrt h50
          refine RJ.rel (d := (some 35)) (ef := ⟨.int .u8 (((x0.getD (x1 : Int).toNat 0).toNat : Nat) : Int), [], []⟩) (ef' := ⟨.int .u8 (((x0.getD (x1 : Int).toNat 0).toNat : Nat) : Int), [], []⟩) (c := inR x1 x0.length) (tr2 := [([], []), ([], []), ([], []), ([0, 1], []), ([], []), ([], []), ([], []), ([0, 1], []), ([], []), ([], []), ([], []), ([], []), ([], []), ([], []), ([0, 1], []), ([], []), ([], []), ([], []), ([0, 1], []), ([], []), ([], []), ([], []), ([], []), ([], []), ([], []), ([], []), ([0, 1], []), ([], []), ([], []), ([], []), ([0, 1], []), ([], [])]) (H2 := [.box [.str x0, .int .i64 x1]]) (by kernel_rfl) hm (fun hc => rfl) (by kernel_rfl) ?_
          refine RJ.segD 2 (tr2 := [([], []), ([], []), ([], []), ([0, 1], []), ([], []), ([], []), ([], []), ([0, 1], []), ([], []), ([], []), ([], []), ([], []), ([], []), ([], []), ([0, 1], []), ([], []), ([], []), ([], []), ([0, 1], []), ([], []), ([], []), ([], []), ([], []), ([], []), ([], []), ([], []), ([0, 1], []), ([], []), ([], []), ([], []), ([0, 1], []), ([], []), ([], []), ([], [])]) (L2 := [(37, .bool ((decide (((((x0.getD (x1 : Int).toNat 0).toNat : Nat) : Int)) > 57)))), (36, .bool ((decide (((((x0.getD (x1 : Int).toNat 0).toNat : Nat) : Int)) > 57)))), (35, .int .u8 ((((x0.getD (x1 : Int).toNat 0).toNat : Nat) : Int))), (34, .int .i64 x1), (33, .ptr 0 1), (32, .ptr 0 0), (31, .ptr 0 0), (30, .str x0), (29, .ptr 0 0), (28, .ptr 0 0), (27, .ptr 0 0), (26, .bool false), (26, .bool ((decide (((((x0.getD (x1 : Int).toNat 0).toNat : Nat) : Int)) < 48)))), (25, .bool ((decide (((((x0.getD (x1 : Int).toNat 0).toNat : Nat) : Int)) < 48)))), (24, .bool ((decide (((((x0.getD (x1 : Int).toNat 0).toNat : Nat) : Int)) < 48)))), (23, .int .u8 ((((x0.getD (x1 : Int).toNat 0).toNat : Nat) : Int))), (22, .int .i64 x1), (21, .ptr 0 1), (20, .ptr 0 0), (19, .ptr 0 0), (18, .str x0), (17, .ptr 0 0), (16, .ptr 0 0), (15, .ptr 0 0), (14, .bool false), (14, .bool ((decide (x1 = (x0.length : Int))))), (13, .bool ((decide (x1 = (x0.length : Int))))), (12, .int .i64 (x0.length : Int)), (11, .str x0), (10, .ptr 0 0), (9, .ptr 0 0), (8, .ptr 0 0), (7, .int .i64 x1), (6, .ptr 0 1), (5, .ptr 0 0), (4, .ptr 0 0), (0, .ptr 0 0), (2, .int .u8 0), (3, .bool false)]) (H2 := [.box [.str x0, .int .i64 x1]]) (by kernel_rfl) ?_
          refine RJ.end (by kernel_rfl) ?_
          obtain rfl := Option.some.inj h51
          exact PJ.cutN [0, 2, 3, 37] (by kernel_rfl) (by kernel_rfl)
    · refine J.caseB 37 (b := s39) (by kernel_rfl) (fun hb52 => ?_) (fun hb52 => ?_)
      · have h53 := condT hb52 h43
        refine K.condT (by kernel_rfl) ?_
        refine K.seq (by kernel_rfl) ?_
        refine K.region (by kernel_rfl) ?_
        refine RJ.seg 2 [0, 2, 3] (L2 := [(0, .ptr 0 0), (2, .int .u8 0), (3, .bool false)]) (H2 := [.box [.str x0, .int .i64 x1]]) (by kernel_rfl) ?_
        refine RJ.end (by kernel_rfl) ?_
        refine PJ.next ?_
        refine K.ret (by kernel_rfl) ?_
        obtain rfl := Option.some.inj h53
        have h55 := joinX_inr h29
        refine PJ.cutXr (fun e => nomatch e) ?_
        obtain rfl := Option.some.inj h55
        exact K.retV (H0 := [.box [.str x0, .int .i64 x1]]) [0] (.inr rfl) hFn hFH hFD (by kernel_rfl) (v1 := .tup [.int .u8 0, .bool false]) (by kernel_rfl) (by kernel_rfl) (by kernel_rfl) (by decide) (by kernel_rfl) (by kernel_rfl) (by kernel_rfl) (by kernel_rfl) (by kernel_rfl)
      · have h54 := condF hb52 h43
        refine K.condF (by kernel_rfl) ?_
        refine K.skip (by kernel_rfl) ?_
        obtain rfl := Option.some.inj h54
        exact PJ.cutXl [0, 2, 3] (by kernel_rfl) (by kernel_rfl)
  · subst hs
    have h30 := joinX_inl h29
    refine K.seq (by kernel_rfl) ?_
    refine J.keep [0, 2, 3] (L2 := [(0, .ptr 0 0), (2, .int .u8 0), (3, .bool false)]) (by kernel_rfl) ?_
    refine K.draw (by kernel_rfl) (by kernel_rfl) (by kernel_rfl) (H2 := [.box [.str x0, .int .i64 x1]]) (by kernel_rfl) (n := 1) (by kernel_rfl) ?_
    refine RJ.segD 8 (tr2 := [([], []), ([], []), ([], []), ([0, 1], []), ([], []), ([], []), ([], []), ([0, 1], [])]) (L2 := [(45, .int .i64 x1), (44, .ptr 0 1), (43, .ptr 0 0), (42, .ptr 0 0), (41, .str x0), (40, .ptr 0 0), (39, .ptr 0 0), (38, .ptr 0 0), (0, .ptr 0 0), (2, .int .u8 0), (3, .bool false)]) (H2 := [.box [.str x0, .int .i64 x1]]) (by kernel_rfl) ?_
    obtain ⟨hm, h56⟩ := asrt h30
    refine RJ.rel (d := (some 46)) (ef := ⟨.int .u8 (((x0.getD (x1 : Int).toNat 0).toNat : Nat) : Int), [], []⟩) (ef' := ⟨.int .u8 (((x0.getD (x1 : Int).toNat 0).toNat : Nat) : Int), [], []⟩) (c := inR x1 x0.length) (tr2 := [([], []), ([], []), ([], []), ([0, 1], []), ([], []), ([], []), ([], []), ([0, 1], []), ([], [])]) (H2 := [.box [.str x0, .int .i64 x1]]) (by kernel_rfl) hm (fun hc => rfl) (by kernel_rfl) ?_
    refine RJ.segD 3 (tr2 := [([], []), ([], []), ([], []), ([0, 1], []), ([], []), ([], []), ([], []), ([0, 1], []), ([], []), ([], []), ([], []), ([], [])]) (L2 := [(3, .bool true), (2, .int .u8 ((IntKind.wrap .u8 (((((x0.getD (x1 : Int).toNat 0).toNat : Nat) : Int)) - 48)))), (47, .int .u8 ((IntKind.wrap .u8 (((((x0.getD (x1 : Int).toNat 0).toNat : Nat) : Int)) - 48)))), (46, .int .u8 ((((x0.getD (x1 : Int).toNat 0).toNat : Nat) : Int))), (45, .int .i64 x1), (44, .ptr 0 1), (43, .ptr 0 0), (42, .ptr 0 0), (41, .str x0), (40, .ptr 0 0), (39, .ptr 0 0), (38, .ptr 0 0), (0, .ptr 0 0), (2, .int .u8 0), (3, .bool false)]) (H2 := [.box [.str x0, .int .i64 x1]]) (by kernel_rfl) ?_
    refine RJ.end (by kernel_rfl) ?_
    refine PJ.next ?_
    refine K.ret (by kernel_rfl) ?_
    obtain rfl := Option.some.inj h56
    exact K.retV (H0 := [.box [.str x0, .int .i64 x1]]) [0] (.inr rfl) hFn hFH hFD (by kernel_rfl) (v1 := .tup [.int .u8 ((IntKind.wrap .u8 (((((x0.getD (x1 : Int).toNat 0).toNat : Nat) : Int)) - 48))), .bool true]) (by kernel_rfl) (by kernel_rfl) (by kernel_rfl) (by decide) (by kernel_rfl) (by kernel_rfl) (by kernel_rfl) (by kernel_rfl) (by kernel_rfl)

def dec_reader__figures_s0 (x0 : List UInt8) (x1 : Int) : Option ((List Int) × Bool × Int) :=
  (Option.bind (dec_reader__eat_s0 48 x0 x1) fun y1 => (bif y1.1 then (some (([] : List Int), true, y1.2)) else (Option.bind (loopN (fun (s195 : Int × (List Int)) => (bif (decide ((s195.2.length : Int) < 1000)) then (Option.bind (dec_reader__next_s0 x0 s195.1) fun y321 => (Option.bind (Option.bind (bif (!y321.2) then (some true) else (bif (decide (y321.1 = 0)) then (some ((decide ((s195.2.length : Int) = 999)))) else (some false))) fun (s358 : Bool) => (bif s358 then (some (.inr (.inr (s195.1, s195.2)))) else (some (.inl ())))) (joinX fun (s347 : Unit) => (bif room (s195.2.length + ([y321.1] : List Int).length) then (some (.inl ((IntKind.wrap .i64 (s195.1 + 1)), (s195.2 ++ ([y321.1] : List Int))))) else none)))) else (some (.inr (s195.1, s195.2))))) big (y1.2, ([] : List Int))) fun (s190 : Int × (List Int)) => (Option.bind (bif (decide ((s190.2.length : Int) > 0)) then (bif inR ((IntKind.wrap .i64 ((s190.2.length : Int) - 1))) s190.2.length then (bif inR ((IntKind.wrap .i64 ((s190.2.length : Int) - 1))) s190.2.length then (some ((decide (¬ ((nth s190.2 ((IntKind.wrap .i64 ((s190.2.length : Int) - 1))))) = 0)))) else none) else none) else (some false)) fun (s383 : Bool) => (some (s190.2, s383, s190.1))))))
theorem dec_reader__figures_s0_ok {x0 : List UInt8} {x1 : Int} {r : (List Int) × Bool × Int} (h : dec_reader__figures_s0 x0 x1 = some r) : SC Tryd.prog 39 [.ptr 0 0] [.box [.str x0, .int .i64 x1]] (.tup [lsv (encI .u8) 1 r.1, .bool r.2.1]) [.box [.str x0, .int .i64 r.2.2]] := by
  refine K.fn (fn := Tryd.f39) (by kernel_rfl) (by kernel_rfl) (by kernel_rfl) (by kernel_rfl) (by kernel_rfl) (fun F hFn hFH hFD => ?_)
  unfold dec_reader__figures_s0 at h
  refine K.seq (by kernel_rfl) ?_
  refine K.region (by kernel_rfl) ?_
  refine RJ.seg 2 [0, 2, 3] (L2 := [(0, .ptr 0 0), (2, .nl), (3, .bool false)]) (H2 := [.box [.str x0, .int .i64 x1]]) (by kernel_rfl) ?_
  refine RJ.end (by kernel_rfl) ?_
  refine PJ.next ?_
  refine K.seq (by kernel_rfl) ?_
  refine K.seq (by kernel_rfl) ?_
  refine K.region (by kernel_rfl) ?_
  refine RJ.seg 1 [0, 2, 3, 7] (L2 := [(0, .ptr 0 0), (2, .nl), (3, .bool false), (7, .ptr 0 0)]) (H2 := [.box [.str x0, .int .i64 x1]]) (by kernel_rfl) ?_
  obtain ⟨y1, hy2, h3⟩ := bindS h
  refine RJ.callG (d := (some 8)) (f := 38) (args := [.ptr 0 0, .int .u8 48]) (args0 := [.ptr 0 0, .int .u8 48]) (v0 := .bool y1.1) (v := .bool y1.1) (tr2 := []) (H0 := [.box [.str x0, .int .i64 x1]]) (H0' := [.box [.str x0, .int .i64 y1.2]]) (H2 := [.box [.str x0, .int .i64 y1.2]]) [0] (by kernel_rfl) (by kernel_rfl) (by kernel_rfl) (by kernel_rfl) (by decide) (by kernel_rfl) (by kernel_rfl) (by kernel_rfl) (.cons (Le.refl _) (.cons (Le.refl _) .nil)) (dec_reader__eat_s0_ok hy2) (by kernel_rfl) (by kernel_rfl) (by kernel_rfl) ?_
  refine RJ.end (by kernel_rfl) ?_
  refine PJ.next ?_
  refine J.caseB 8 (b := y1.1) (by kernel_rfl) (fun hb4 => ?_) (fun hb4 => ?_)
  · have h5 := condT hb4 h3
    refine K.condT (by kernel_rfl) ?_
    refine K.seq (by kernel_rfl) ?_
    refine K.region (by kernel_rfl) ?_
    refine RJ.seg 2 [0, 2, 3] (L2 := [(0, .ptr 0 0), (2, .nl), (3, .bool true)]) (H2 := [.box [.str x0, .int .i64 y1.2]]) (by kernel_rfl) ?_
    refine RJ.end (by kernel_rfl) ?_
    refine PJ.next ?_
    refine K.ret (by kernel_rfl) ?_
    refine PJ.passRet ?_
    obtain rfl := Option.some.inj h5
    refine PJ.res (v1 := .tup [.nl, .bool true]) (Le.tup (.cons (Le.nl _) (.cons (Le.refl _) .nil))) ?_
    exact K.retV (H0 := [.box [.str x0, .int .i64 x1]]) [0] (.inr rfl) hFn hFH hFD (by kernel_rfl) (v1 := .tup [.nl, .bool true]) (by kernel_rfl) (by kernel_rfl) (by kernel_rfl) (by decide) (by kernel_rfl) (by kernel_rfl) (by kernel_rfl) (by kernel_rfl) (by kernel_rfl)
  · have h6 := condF hb4 h3
    refine K.condF (by kernel_rfl) ?_
    refine K.skip (by kernel_rfl) ?_
    refine PJ.next ?_
    refine K.seq (by kernel_rfl) ?_
    refine K.region (by kernel_rfl) ?_
    refine RJ.seg 1 [0, 2, 3, 4] (L2 := [(0, .ptr 0 0), (2, .nl), (3, .bool false), (4, .nl)]) (H2 := [.box [.str x0, .int .i64 y1.2]]) (by kernel_rfl) ?_
    refine RJ.end (by kernel_rfl) ?_
    refine PJ.next ?_
    obtain ⟨s190, hy192, h194⟩ := bindS h6
    refine K.cutN (by kernel_rfl) (fun (s190 : Int × (List Int)) => ([(2, .nl), (3, .bool false), (4, .vc 1)], [.box [.str x0, .int .i64 s190.1], vecL (encI .u8) 1 5 s190.2])) s190 ?_ ?_
    · refine K.block 0 (by kernel_rfl) ?_
      refine J.wk (Wk.viv 4 1 5 (by kernel_rfl)) ?_
      refine K.loop (by kernel_rfl) (fun (s195 : Int × (List Int)) => ([(0, .ptr 0 0), (2, .nl), (3, .bool false), (4, .vc 1)], [.box [.str x0, .int .i64 s195.1], vecL (encI .u8) 1 5 s195.2])) hy192 [0, 2, 3, 4] (by kernel_rfl) (by kernel_rfl) (fun s195 x317 hs316 => ?_)
      refine K.seq (by kernel_rfl) ?_
      refine K.seq (by kernel_rfl) ?_
      refine K.region (by kernel_rfl) ?_
      refine RJ.seg 3 [0, 2, 3, 4, 11] (L2 := [(0, .ptr 0 0), (2, .nl), (3, .bool false), (4, .vc 1), (11, .bool ((decide ((s195.2.length : Int) < 1000))))]) (H2 := [.box [.str x0, .int .i64 s195.1], vecL (encI .u8) 1 5 s195.2]) (by kernel_rfl) ?_
      refine RJ.end (by kernel_rfl) ?_
      refine PJ.next ?_
      refine J.caseB 11 (b := (decide ((s195.2.length : Int) < 1000))) (by kernel_rfl) (fun hb318 => ?_) (fun hb318 => ?_)
      · have h319 := condT hb318 hs316
        refine K.condT (by kernel_rfl) ?_
        refine K.skip (by kernel_rfl) ?_
        refine PJ.next ?_
        refine K.block 1 (by kernel_rfl) ?_
        refine K.seq (by kernel_rfl) ?_
        refine K.region (by kernel_rfl) ?_
        refine RJ.seg 1 [0, 2, 3, 4, 13] (L2 := [(0, .ptr 0 0), (2, .nl), (3, .bool false), (4, .vc 1), (13, .ptr 0 0)]) (H2 := [.box [.str x0, .int .i64 s195.1], vecL (encI .u8) 1 5 s195.2]) (by kernel_rfl) ?_
        obtain ⟨y321, hy322, h323⟩ := bindS h319
        refine RJ.callG (d := (some 14)) (f := 42) (args := [.ptr 0 0]) (args0 := [.ptr 0 0]) (v0 := .tup [.int .u8 y321.1, .bool y321.2]) (v := .tup [.int .u8 y321.1, .bool y321.2]) (tr2 := []) (H0 := [.box [.str x0, .int .i64 s195.1]]) (H0' := [.box [.str x0, .int .i64 s195.1]]) (H2 := [.box [.str x0, .int .i64 s195.1], vecL (encI .u8) 1 5 s195.2]) [0] (by kernel_rfl) (by kernel_rfl) (by kernel_rfl) (by kernel_rfl) (by decide) (by kernel_rfl) (by kernel_rfl) (by kernel_rfl) (.cons (Le.refl _) .nil) (dec_reader__next_s0_ok hy322) (by kernel_rfl) (by kernel_rfl) (by kernel_rfl) ?_
        refine RJ.seg 5 [0, 2, 3, 4, 5, 6] (L2 := [(0, .ptr 0 0), (2, .nl), (3, .bool false), (4, .vc 1), (5, .int .u8 y321.1), (6, .bool y321.2)]) (H2 := [.box [.str x0, .int .i64 s195.1], vecL (encI .u8) 1 5 s195.2]) (by kernel_rfl) ?_
        refine RJ.end (by kernel_rfl) ?_
        refine PJ.next ?_
        obtain ⟨y348, hy349, h350⟩ := bindS h323
        refine K.cutX (by kernel_rfl) (fun (s347 : Unit) => ([(0, .ptr 0 0), (2, .nl), (3, .bool false), (4, .vc 1), (5, .int .u8 y321.1)], [.box [.str x0, .int .i64 s195.1], vecL (encI .u8) 1 5 s195.2])) y348 ?_ (fun s347 hs => ?_)
        · obtain ⟨s358, hy360, h362⟩ := bindS hy349
          refine K.cutN (by kernel_rfl) (fun (s358 : Bool) => ([(0, .ptr 0 0), (2, .nl), (3, .bool false), (4, .vc 1), (5, .int .u8 y321.1), (27, .bool s358)], [.box [.str x0, .int .i64 s195.1], vecL (encI .u8) 1 5 s195.2])) s358 ?_ ?_
          · refine K.region (by kernel_rfl) ?_
            refine RJ.seg 3 [0, 2, 3, 4, 5, 19] (L2 := [(0, .ptr 0 0), (2, .nl), (3, .bool false), (4, .vc 1), (5, .int .u8 y321.1), (19, .bool (!y321.2))]) (H2 := [.box [.str x0, .int .i64 s195.1], vecL (encI .u8) 1 5 s195.2]) (by kernel_rfl) ?_
            refine RJ.caseB 19 (b := (!y321.2)) (by kernel_rfl) (fun hb363 => ?_) (fun hb363 => ?_)
            · have h364 := condT hb363 hy360
              refine RJ.seg 8 [0, 2, 3, 4, 5, 27] (L2 := [(0, .ptr 0 0), (2, .nl), (3, .bool false), (4, .vc 1), (5, .int .u8 y321.1), (27, .bool true)]) (H2 := [.box [.str x0, .int .i64 s195.1], vecL (encI .u8) 1 5 s195.2]) (by kernel_rfl) ?_
              refine RJ.end (by kernel_rfl) ?_
              obtain rfl := Option.some.inj h364
              exact PJ.cutN [0, 2, 3, 4, 5, 27] (by kernel_rfl) (by kernel_rfl)
            · have h365 := condF hb363 hy360
              refine RJ.seg 3 [0, 2, 3, 4, 5, 19, 22] (L2 := [(0, .ptr 0 0), (2, .nl), (3, .bool false), (4, .vc 1), (5, .int .u8 y321.1), (19, .bool false), (22, .bool (decide (y321.1 = 0)))]) (H2 := [.box [.str x0, .int .i64 s195.1], vecL (encI .u8) 1 5 s195.2]) (by kernel_rfl) ?_
              refine RJ.caseB 22 (b := (decide (y321.1 = 0))) (by kernel_rfl) (fun hb366 => ?_) (fun hb366 => ?_)
              · have h367 := condT hb366 h365
                refine RJ.seg 5 [0, 2, 3, 4, 5, 27] (L2 := [(0, .ptr 0 0), (2, .nl), (3, .bool false), (4, .vc 1), (5, .int .u8 y321.1), (27, .bool ((decide ((s195.2.length : Int) = 999))))]) (H2 := [.box [.str x0, .int .i64 s195.1], vecL (encI .u8) 1 5 s195.2]) (by kernel_rfl) ?_
                refine RJ.end (by kernel_rfl) ?_
                obtain rfl := Option.some.inj h367
                exact PJ.cutN [0, 2, 3, 4, 5, 27] (by kernel_rfl) (by kernel_rfl)
              · have h368 := condF hb366 h365
                refine RJ.seg 5 [0, 2, 3, 4, 5, 27] (L2 := [(0, .ptr 0 0), (2, .nl), (3, .bool false), (4, .vc 1), (5, .int .u8 y321.1), (27, .bool false)]) (H2 := [.box [.str x0, .int .i64 s195.1], vecL (encI .u8) 1 5 s195.2]) (by kernel_rfl) ?_
                refine RJ.end (by kernel_rfl) ?_
                obtain rfl := Option.some.inj h368
                exact PJ.cutN [0, 2, 3, 4, 5, 27] (by kernel_rfl) (by kernel_rfl)
          · refine J.caseB 27 (b := s358) (by kernel_rfl) (fun hb369 => ?_) (fun hb369 => ?_)
            · have h370 := condT hb369 h362
              refine K.condT (by kernel_rfl) ?_
              refine K.exit 0 (by kernel_rfl) ?_
              obtain rfl := Option.some.inj h370
              have h372 := joinX_inr h350
              refine PJ.cutXr (fun e => nomatch e) ?_
              refine PJ.blockPass (by kernel_rfl) ?_
              obtain rfl := Option.some.inj h372
              refine PJ.loopOut (fun e => nomatch e) (fun he374 => ?_)
              have h373 := congrArg some he374
              refine PJ.blockOut ?_
              obtain rfl := Option.some.inj h373
              exact PJ.cutN [2, 3, 4] (by kernel_rfl) (by kernel_rfl)
            · have h371 := condF hb369 h362
              refine K.condF (by kernel_rfl) ?_
              refine K.skip (by kernel_rfl) ?_
              obtain rfl := Option.some.inj h371
              exact PJ.cutXl [0, 2, 3, 4, 5] (by kernel_rfl) (by kernel_rfl)
        · subst hs
          have h351 := joinX_inl h350
          refine K.seq (by kernel_rfl) ?_
          refine K.region (by kernel_rfl) ?_
          refine RJ.seg 3 [0, 2, 3, 4, 28, 30] (L2 := [(0, .ptr 0 0), (2, .nl), (3, .bool false), (4, .vc 1), (28, .vc 1), (30, .vc 2)]) (H2 := [.box [.str x0, .int .i64 s195.1], vecL (encI .u8) 1 5 s195.2, vecL (encI .u8) 1 5 ([y321.1] : List Int)]) (by kernel_rfl) ?_
          obtain ⟨hm, h375⟩ := asrt h351
          refine RJ.rel (d := (some 31)) (ef := ⟨.vc 3, [1, 2], [(1, .gone), (3, .vec (s195.2.length + ([y321.1] : List Int).length) 1 5 (s195.2.flatMap (encI .u8) ++ ([y321.1] : List Int).flatMap (encI .u8)))]⟩) (ef' := ⟨.vc 3, [1, 2], [(1, .gone), (3, vecL (encI .u8) 1 5 (s195.2 ++ ([y321.1] : List Int)))]⟩) (c := roomB (s195.2.length + ([y321.1] : List Int).length)) (tr2 := []) (H2 := [.box [.str x0, .int .i64 s195.1], .gone, vecL (encI .u8) 1 5 ([y321.1] : List Int), vecL (encI .u8) 1 5 (s195.2 ++ ([y321.1] : List Int))]) (by kernel_rfl) (roomB_of_room hm) (fun hc => N.app) (by kernel_rfl) ?_
          refine RJ.seg 1 [0, 2, 3, 4] (L2 := [(0, .ptr 0 0), (2, .nl), (3, .bool false), (4, .vc 3)]) (H2 := [.box [.str x0, .int .i64 s195.1], .gone, vecL (encI .u8) 1 5 ([y321.1] : List Int), vecL (encI .u8) 1 5 (s195.2 ++ ([y321.1] : List Int))]) (by kernel_rfl) ?_
          refine RJ.end (by kernel_rfl) ?_
          refine PJ.next ?_
          refine K.region (by kernel_rfl) ?_
          refine RJ.seg 8 [0, 2, 3, 4] (L2 := [(0, .ptr 0 0), (2, .nl), (3, .bool false), (4, .vc 3)]) (H2 := [.box [.str x0, .int .i64 (IntKind.wrap .i64 (s195.1 + 1))], .gone, vecL (encI .u8) 1 5 ([y321.1] : List Int), vecL (encI .u8) 1 5 (s195.2 ++ ([y321.1] : List Int))]) (by kernel_rfl) ?_
          refine RJ.end (by kernel_rfl) ?_
          refine PJ.blockNormal ?_
          obtain rfl := Option.some.inj h375
          refine PJ.wk (Wk.sel (L2 := [(0, .ptr 0 0), (2, .nl), (3, .bool false), (4, .vc 1)]) (H2 := [.box [.str x0, .int .i64 (IntKind.wrap .i64 (s195.1 + 1))], vecL (encI .u8) 1 5 (s195.2 ++ ([y321.1] : List Int))]) 1 (by rw [hFH]; rfl) hFD [0, 3] (by kernel_rfl) (by kernel_rfl) (by decide) (by kernel_rfl) (by kernel_rfl) (by kernel_rfl) (by kernel_rfl)) ?_
          exact PJ.loopNext [0, 2, 3, 4] (by kernel_rfl) (by kernel_rfl)
      · have h320 := condF hb318 hs316
        refine K.condF (by kernel_rfl) ?_
        refine K.exit 0 (by kernel_rfl) ?_
        refine PJ.passExit ?_
        obtain rfl := Option.some.inj h320
        refine PJ.loopOut (fun e => nomatch e) (fun he377 => ?_)
        have h376 := congrArg some he377
        refine PJ.blockOut ?_
        obtain rfl := Option.some.inj h376
        exact PJ.cutN [2, 3, 4] (by kernel_rfl) (by kernel_rfl)
    · obtain ⟨s383, hy385, h387⟩ := bindS h194
      refine K.cutN (by kernel_rfl) (fun (s383 : Bool) => ([(2, .vc 1), (3, .bool s383)], [.box [.str x0, .int .i64 s190.1], vecL (encI .u8) 1 5 s190.2])) s383 ?_ ?_
      · refine J.keep [2, 3, 4] (L2 := [(2, .nl), (3, .bool false), (4, .vc 1)]) (by kernel_rfl) ?_
        refine K.draw (by kernel_rfl) (by kernel_rfl) (by kernel_rfl) (H2 := [.box [.str x0, .int .i64 s190.1], vecL (encI .u8) 1 5 s190.2]) (by kernel_rfl) (n := 2) (by kernel_rfl) ?_
        refine RJ.segD 5 (tr2 := [([], []), ([], []), ([3], []), ([], []), ([], [])]) (L2 := [(43, .bool ((decide ((s190.2.length : Int) > 0)))), (42, .bool ((decide ((s190.2.length : Int) > 0)))), (41, .int .i64 (s190.2.length : Int)), (40, .vc 1), (39, .vc 1), (2, .nl), (3, .bool false), (4, .vc 1)]) (H2 := [.box [.str x0, .int .i64 s190.1], vecL (encI .u8) 1 5 s190.2]) (by kernel_rfl) ?_
        refine RJ.caseB 43 (b := (decide ((s190.2.length : Int) > 0))) (by kernel_rfl) (fun hb388 => ?_) (fun hb388 => ?_)
        · have h389 := condT hb388 hy385
          refine RJ.segD 4 (tr2 := [([], []), ([], []), ([3], []), ([], []), ([], []), ([], []), ([], []), ([3], []), ([], [])]) (L2 := [(47, .int .i64 ((IntKind.wrap .i64 ((s190.2.length : Int) - 1)))), (46, .int .i64 (s190.2.length : Int)), (45, .vc 1), (44, .vc 1), (43, .bool true), (43, .bool ((decide ((s190.2.length : Int) > 0)))), (42, .bool ((decide ((s190.2.length : Int) > 0)))), (41, .int .i64 (s190.2.length : Int)), (40, .vc 1), (39, .vc 1), (2, .nl), (3, .bool false), (4, .vc 1)]) (H2 := [.box [.str x0, .int .i64 s190.1], vecL (encI .u8) 1 5 s190.2]) (by kernel_rfl) ?_
          obtain ⟨hm, h391⟩ := asrt h389
          refine RJ.rel (d := (some 48)) (ef := ⟨.ptr 1 (((IntKind.wrap .i64 ((s190.2.length : Int) - 1)) : Int).toNat * 1), [1], []⟩) (ef' := ⟨.ptr 1 (((IntKind.wrap .i64 ((s190.2.length : Int) - 1)) : Int).toNat * 1), [1], []⟩) (c := inR ((IntKind.wrap .i64 ((s190.2.length : Int) - 1))) s190.2.length) (tr2 := [([], []), ([], []), ([3], []), ([], []), ([], []), ([], []), ([], []), ([3], []), ([], []), ([3], [])]) (H2 := [.box [.str x0, .int .i64 s190.1], vecL (encI .u8) 1 5 s190.2]) (by kernel_rfl) hm (fun hc => rfl) (by kernel_rfl) ?_
          obtain ⟨hm, h392⟩ := asrt h391
          refine RJ.rel (d := (some 49)) (ef := ⟨(((s190.2).flatMap (encI .u8)).drop (((IntKind.wrap .i64 ((s190.2.length : Int) - 1)) : Int).toNat * 1)).headD .undef, [1], []⟩) (ef' := ⟨.int .u8 ((nth s190.2 ((IntKind.wrap .i64 ((s190.2.length : Int) - 1))))), [1], []⟩) (c := Nat.blt (((IntKind.wrap .i64 ((s190.2.length : Int) - 1)) : Int).toNat * 1) (s190.2.flatMap (encI .u8)).length) (tr2 := [([], []), ([], []), ([3], []), ([], []), ([], []), ([], []), ([], []), ([3], []), ([], []), ([3], []), ([2, 3], [])]) (H2 := [.box [.str x0, .int .i64 s190.1], vecL (encI .u8) 1 5 s190.2]) (by kernel_rfl) (loadv_ok (encI_len .u8) rfl hm) (fun hc => N.load1 (encI_len .u8) (fun _ => rfl) hm) (by kernel_rfl) ?_
          refine RJ.segD 4 (tr2 := [([], []), ([], []), ([3], []), ([], []), ([], []), ([], []), ([], []), ([3], []), ([], []), ([3], []), ([2, 3], []), ([], []), ([], []), ([], []), ([], [])]) (L2 := [(3, .bool ((decide (¬ ((nth s190.2 ((IntKind.wrap .i64 ((s190.2.length : Int) - 1))))) = 0)))), (2, .vc 1), (51, .bool ((decide (¬ ((nth s190.2 ((IntKind.wrap .i64 ((s190.2.length : Int) - 1))))) = 0)))), (50, .bool ((decide (¬ ((nth s190.2 ((IntKind.wrap .i64 ((s190.2.length : Int) - 1))))) = 0)))), (49, .int .u8 ((nth s190.2 ((IntKind.wrap .i64 ((s190.2.length : Int) - 1)))))), (48, .ptr 1 ((((IntKind.wrap .i64 ((s190.2.length : Int) - 1)) : Int).toNat * 1))), (47, .int .i64 ((IntKind.wrap .i64 ((s190.2.length : Int) - 1)))), (46, .int .i64 (s190.2.length : Int)), (45, .vc 1), (44, .vc 1), (43, .bool true), (43, .bool ((decide ((s190.2.length : Int) > 0)))), (42, .bool ((decide ((s190.2.length : Int) > 0)))), (41, .int .i64 (s190.2.length : Int)), (40, .vc 1), (39, .vc 1), (2, .nl), (3, .bool false), (4, .vc 1)]) (H2 := [.box [.str x0, .int .i64 s190.1], vecL (encI .u8) 1 5 s190.2]) (by kernel_rfl) ?_
          refine RJ.end (by kernel_rfl) ?_
          obtain rfl := Option.some.inj h392
          exact PJ.cutN [2, 3] (by kernel_rfl) (by kernel_rfl)
        · have h390 := condF hb388 hy385
          refine RJ.segD 10 (tr2 := [([], []), ([], []), ([3], []), ([], []), ([], []), ([], []), ([], []), ([], []), ([], []), ([], []), ([], []), ([], []), ([], []), ([], []), ([], [])]) (L2 := [(3, .bool false), (2, .vc 1), (51, .bool false), (50, .tup []), (49, .tup []), (48, .tup []), (47, .tup []), (46, .tup []), (45, .tup []), (44, .tup []), (43, .bool false), (43, .bool ((decide ((s190.2.length : Int) > 0)))), (42, .bool ((decide ((s190.2.length : Int) > 0)))), (41, .int .i64 (s190.2.length : Int)), (40, .vc 1), (39, .vc 1), (2, .nl), (3, .bool false), (4, .vc 1)]) (H2 := [.box [.str x0, .int .i64 s190.1], vecL (encI .u8) 1 5 s190.2]) (by kernel_rfl) ?_
          refine RJ.end (by kernel_rfl) ?_
          obtain rfl := Option.some.inj h390
          exact PJ.cutN [2, 3] (by kernel_rfl) (by kernel_rfl)
      · refine K.ret (by kernel_rfl) ?_
        obtain rfl := Option.some.inj h387
        refine PJ.wk (Wk.freeze 1 (n := s190.2.length) (k := 1) (e := 5) (cs := s190.2.flatMap (encI .u8)) (by kernel_rfl)) ?_
        exact K.retV (H0 := [.box [.str x0, .int .i64 x1]]) [0] (.inr rfl) hFn hFH hFD (by kernel_rfl) (v1 := .tup [lsv (encI .u8) 1 s190.2, .bool s383]) (by kernel_rfl) (by kernel_rfl) (by kernel_rfl) (by decide) (by kernel_rfl) (by kernel_rfl) (by kernel_rfl) (by kernel_rfl) (by kernel_rfl)

def dec_reader__power_s0 (x0 : Bool) (x1 : List UInt8) (x2 : Int) : Option (Int × Bool × Int) :=
  (Option.bind (dec_reader__eat_s0 48 x1 x2) fun y1 => (bif y1.1 then (some (0, true, y1.2)) else (bif x0 then (some (0, false, y1.2)) else (Option.bind (Option.bind (dec_reader__eat_s0 45 x1 y1.2) fun y21 => (bif y21.1 then (some ((-1), y21.2)) else (some (1, y21.2)))) fun (s16 : Int × Int) => (loopN (fun (s27 : Int × Int) => (Option.bind (dec_reader__next_s0 x1 s27.2) fun y162 => (Option.bind (Option.bind (bif (!y162.2) then (some true) else (bif (decide (s27.1 = 0)) then (bif (decide (y162.1 = 0)) then (some true) else (some ((decide (((IntKind.wrap .i64 ((IntKind.wrap .i64 (s27.1 * 10)) + (IntKind.wrap .i64 y162.1)))) > 1000))))) else (some ((decide (((IntKind.wrap .i64 ((IntKind.wrap .i64 (s27.1 * 10)) + (IntKind.wrap .i64 y162.1)))) > 1000)))))) fun (s208 : Bool) => (bif s208 then (some (.inr (.inr ((IntKind.wrap .i64 (s16.1 * s27.1)), (decide (s27.1 > 0)), s27.2)))) else (some (.inl ())))) (joinX fun (s194 : Unit) => (some (.inl ((IntKind.wrap .i64 ((IntKind.wrap .i64 (s27.1 * 10)) + (IntKind.wrap .i64 y162.1))), (IntKind.wrap .i64 (s27.2 + 1))))))))) big (0, s16.2))))))
theorem dec_reader__power_s0_ok {x0 : Bool} {x1 : List UInt8} {x2 : Int} {r : Int × Bool × Int} (h : dec_reader__power_s0 x0 x1 x2 = some r) : SC Tryd.prog 40 [.ptr 0 0, .bool x0] [.box [.str x1, .int .i64 x2]] (.tup [.int .i64 r.1, .bool r.2.1]) [.box [.str x1, .int .i64 r.2.2]] := by
  refine K.fn (fn := Tryd.f40) (by kernel_rfl) (by kernel_rfl) (by kernel_rfl) (by kernel_rfl) (by kernel_rfl) (fun F hFn hFH hFD => ?_)
  unfold dec_reader__power_s0 at h
  refine K.seq (by kernel_rfl) ?_
  refine K.region (by kernel_rfl) ?_
  refine RJ.seg 2 [0, 1, 4, 5] (L2 := [(0, .ptr 0 0), (1, .bool x0), (4, .int .i64 0), (5, .bool false)]) (H2 := [.box [.str x1, .int .i64 x2]]) (by kernel_rfl) ?_
  refine RJ.end (by kernel_rfl) ?_
  refine PJ.next ?_
  refine K.seq (by kernel_rfl) ?_
  refine K.seq (by kernel_rfl) ?_
  refine K.region (by kernel_rfl) ?_
  refine RJ.seg 1 [0, 1, 4, 5, 10] (L2 := [(0, .ptr 0 0), (1, .bool x0), (4, .int .i64 0), (5, .bool false), (10, .ptr 0 0)]) (H2 := [.box [.str x1, .int .i64 x2]]) (by kernel_rfl) ?_
  obtain ⟨y1, hy2, h3⟩ := bindS h
  refine RJ.callG (d := (some 11)) (f := 38) (args := [.ptr 0 0, .int .u8 48]) (args0 := [.ptr 0 0, .int .u8 48]) (v0 := .bool y1.1) (v := .bool y1.1) (tr2 := []) (H0 := [.box [.str x1, .int .i64 x2]]) (H0' := [.box [.str x1, .int .i64 y1.2]]) (H2 := [.box [.str x1, .int .i64 y1.2]]) [0] (by kernel_rfl) (by kernel_rfl) (by kernel_rfl) (by kernel_rfl) (by decide) (by kernel_rfl) (by kernel_rfl) (by kernel_rfl) (.cons (Le.refl _) (.cons (Le.refl _) .nil)) (dec_reader__eat_s0_ok hy2) (by kernel_rfl) (by kernel_rfl) (by kernel_rfl) ?_
  refine RJ.end (by kernel_rfl) ?_
  refine PJ.next ?_
  refine J.caseB 11 (b := y1.1) (by kernel_rfl) (fun hb4 => ?_) (fun hb4 => ?_)
  · have h5 := condT hb4 h3
    refine K.condT (by kernel_rfl) ?_
    refine K.seq (by kernel_rfl) ?_
    refine K.region (by kernel_rfl) ?_
    refine RJ.seg 2 [0, 1, 4, 5] (L2 := [(0, .ptr 0 0), (1, .bool x0), (4, .int .i64 0), (5, .bool true)]) (H2 := [.box [.str x1, .int .i64 y1.2]]) (by kernel_rfl) ?_
    refine RJ.end (by kernel_rfl) ?_
    refine PJ.next ?_
    refine K.ret (by kernel_rfl) ?_
    refine PJ.passRet ?_
    obtain rfl := Option.some.inj h5
    exact K.retV (H0 := [.box [.str x1, .int .i64 x2]]) [0] (.inr rfl) hFn hFH hFD (by kernel_rfl) (v1 := .tup [.int .i64 0, .bool true]) (by kernel_rfl) (by kernel_rfl) (by kernel_rfl) (by decide) (by kernel_rfl) (by kernel_rfl) (by kernel_rfl) (by kernel_rfl) (by kernel_rfl)
  · have h6 := condF hb4 h3
    refine K.condF (by kernel_rfl) ?_
    refine K.skip (by kernel_rfl) ?_
    refine PJ.next ?_
    refine K.seq (by kernel_rfl) ?_
    refine K.seq (by kernel_rfl) ?_
    refine K.region (by kernel_rfl) ?_
    refine RJ.seg 1 [0, 4, 5, 12] (L2 := [(0, .ptr 0 0), (4, .int .i64 0), (5, .bool false), (12, .bool x0)]) (H2 := [.box [.str x1, .int .i64 y1.2]]) (by kernel_rfl) ?_
    refine RJ.end (by kernel_rfl) ?_
    refine PJ.next ?_
    refine J.caseB 12 (b := x0) (by kernel_rfl) (fun hb7 => ?_) (fun hb7 => ?_)
    · have h8 := condT hb7 h6
      refine K.condT (by kernel_rfl) ?_
      refine K.seq (by kernel_rfl) ?_
      refine K.region (by kernel_rfl) ?_
      refine RJ.seg 2 [0, 4, 5] (L2 := [(0, .ptr 0 0), (4, .int .i64 0), (5, .bool false)]) (H2 := [.box [.str x1, .int .i64 y1.2]]) (by kernel_rfl) ?_
      refine RJ.end (by kernel_rfl) ?_
      refine PJ.next ?_
      refine K.ret (by kernel_rfl) ?_
      refine PJ.passRet ?_
      obtain rfl := Option.some.inj h8
      exact K.retV (H0 := [.box [.str x1, .int .i64 x2]]) [0] (.inr rfl) hFn hFH hFD (by kernel_rfl) (v1 := .tup [.int .i64 0, .bool false]) (by kernel_rfl) (by kernel_rfl) (by kernel_rfl) (by decide) (by kernel_rfl) (by kernel_rfl) (by kernel_rfl) (by kernel_rfl) (by kernel_rfl)
    · have h9 := condF hb7 h6
      refine K.condF (by kernel_rfl) ?_
      refine K.skip (by kernel_rfl) ?_
      refine PJ.next ?_
      refine K.seq (by kernel_rfl) ?_
      refine K.region (by kernel_rfl) ?_
      refine RJ.seg 1 [0, 4, 5, 6] (L2 := [(0, .ptr 0 0), (4, .int .i64 0), (5, .bool false), (6, .int .i64 1)]) (H2 := [.box [.str x1, .int .i64 y1.2]]) (by kernel_rfl) ?_
      refine RJ.end (by kernel_rfl) ?_
      refine PJ.next ?_
      obtain ⟨s16, hy18, h20⟩ := bindS h9
      refine K.cutN (by kernel_rfl) (fun (s16 : Int × Int) => ([(0, .ptr 0 0), (4, .int .i64 0), (5, .bool false), (6, .int .i64 s16.1)], [.box [.str x1, .int .i64 s16.2]])) s16 ?_ ?_
      · refine K.seq (by kernel_rfl) ?_
        refine K.region (by kernel_rfl) ?_
        refine RJ.seg 1 [0, 4, 5, 6, 13] (L2 := [(0, .ptr 0 0), (4, .int .i64 0), (5, .bool false), (6, .int .i64 1), (13, .ptr 0 0)]) (H2 := [.box [.str x1, .int .i64 y1.2]]) (by kernel_rfl) ?_
        obtain ⟨y21, hy22, h23⟩ := bindS hy18
        refine RJ.callG (d := (some 14)) (f := 38) (args := [.ptr 0 0, .int .u8 45]) (args0 := [.ptr 0 0, .int .u8 45]) (v0 := .bool y21.1) (v := .bool y21.1) (tr2 := []) (H0 := [.box [.str x1, .int .i64 y1.2]]) (H0' := [.box [.str x1, .int .i64 y21.2]]) (H2 := [.box [.str x1, .int .i64 y21.2]]) [0] (by kernel_rfl) (by kernel_rfl) (by kernel_rfl) (by kernel_rfl) (by decide) (by kernel_rfl) (by kernel_rfl) (by kernel_rfl) (.cons (Le.refl _) (.cons (Le.refl _) .nil)) (dec_reader__eat_s0_ok hy22) (by kernel_rfl) (by kernel_rfl) (by kernel_rfl) ?_
        refine RJ.end (by kernel_rfl) ?_
        refine PJ.next ?_
        refine J.caseB 14 (b := y21.1) (by kernel_rfl) (fun hb24 => ?_) (fun hb24 => ?_)
        · have h25 := condT hb24 h23
          refine K.condT (by kernel_rfl) ?_
          refine K.region (by kernel_rfl) ?_
          refine RJ.seg 1 [0, 4, 5, 6] (L2 := [(0, .ptr 0 0), (4, .int .i64 0), (5, .bool false), (6, .int .i64 (-1))]) (H2 := [.box [.str x1, .int .i64 y21.2]]) (by kernel_rfl) ?_
          refine RJ.end (by kernel_rfl) ?_
          obtain rfl := Option.some.inj h25
          exact PJ.cutN [0, 4, 5, 6] (by kernel_rfl) (by kernel_rfl)
        · have h26 := condF hb24 h23
          refine K.condF (by kernel_rfl) ?_
          refine K.skip (by kernel_rfl) ?_
          obtain rfl := Option.some.inj h26
          exact PJ.cutN [0, 4, 5, 6] (by kernel_rfl) (by kernel_rfl)
      · refine K.seq (by kernel_rfl) ?_
        refine K.region (by kernel_rfl) ?_
        refine RJ.seg 1 [0, 4, 5, 6, 7] (L2 := [(0, .ptr 0 0), (4, .int .i64 0), (5, .bool false), (6, .int .i64 s16.1), (7, .int .i64 0)]) (H2 := [.box [.str x1, .int .i64 s16.2]]) (by kernel_rfl) ?_
        refine RJ.end (by kernel_rfl) ?_
        refine PJ.next ?_
        refine K.block 0 (by kernel_rfl) ?_
        refine K.loop (by kernel_rfl) (fun (s27 : Int × Int) => ([(0, .ptr 0 0), (4, .int .i64 0), (5, .bool false), (6, .int .i64 s16.1), (7, .int .i64 s27.1)], [.box [.str x1, .int .i64 s27.2]])) h20 [0, 4, 5, 6, 7] (by kernel_rfl) (by kernel_rfl) (fun s27 x161 hs160 => ?_)
        refine K.block 1 (by kernel_rfl) ?_
        refine K.seq (by kernel_rfl) ?_
        refine K.region (by kernel_rfl) ?_
        refine RJ.seg 1 [0, 4, 5, 6, 7, 16] (L2 := [(0, .ptr 0 0), (4, .int .i64 0), (5, .bool false), (6, .int .i64 s16.1), (7, .int .i64 s27.1), (16, .ptr 0 0)]) (H2 := [.box [.str x1, .int .i64 s27.2]]) (by kernel_rfl) ?_
        obtain ⟨y162, hy163, h164⟩ := bindS hs160
        refine RJ.callG (d := (some 17)) (f := 42) (args := [.ptr 0 0]) (args0 := [.ptr 0 0]) (v0 := .tup [.int .u8 y162.1, .bool y162.2]) (v := .tup [.int .u8 y162.1, .bool y162.2]) (tr2 := []) (H0 := [.box [.str x1, .int .i64 s27.2]]) (H0' := [.box [.str x1, .int .i64 s27.2]]) (H2 := [.box [.str x1, .int .i64 s27.2]]) [0] (by kernel_rfl) (by kernel_rfl) (by kernel_rfl) (by kernel_rfl) (by decide) (by kernel_rfl) (by kernel_rfl) (by kernel_rfl) (.cons (Le.refl _) .nil) (dec_reader__next_s0_ok hy163) (by kernel_rfl) (by kernel_rfl) (by kernel_rfl) ?_
        refine RJ.seg 5 [0, 4, 5, 6, 7, 8, 9] (L2 := [(0, .ptr 0 0), (4, .int .i64 0), (5, .bool false), (6, .int .i64 s16.1), (7, .int .i64 s27.1), (8, .int .u8 y162.1), (9, .bool y162.2)]) (H2 := [.box [.str x1, .int .i64 s27.2]]) (by kernel_rfl) ?_
        refine RJ.end (by kernel_rfl) ?_
        refine PJ.next ?_
        obtain ⟨y195, hy196, h197⟩ := bindS h164
        refine K.cutX (by kernel_rfl) (fun (s194 : Unit) => ([(0, .ptr 0 0), (4, .int .i64 0), (5, .bool false), (6, .int .i64 s16.1), (7, .int .i64 s27.1), (8, .int .u8 y162.1)], [.box [.str x1, .int .i64 s27.2]])) y195 ?_ (fun s194 hs => ?_)
        · obtain ⟨s208, hy210, h212⟩ := bindS hy196
          refine K.cutN (by kernel_rfl) (fun (s208 : Bool) => ([(0, .ptr 0 0), (4, .int .i64 0), (5, .bool false), (6, .int .i64 s16.1), (7, .int .i64 s27.1), (8, .int .u8 y162.1), (37, .bool s208)], [.box [.str x1, .int .i64 s27.2]])) s208 ?_ ?_
          · refine K.region (by kernel_rfl) ?_
            refine RJ.seg 3 [0, 4, 5, 6, 7, 8, 22] (L2 := [(0, .ptr 0 0), (4, .int .i64 0), (5, .bool false), (6, .int .i64 s16.1), (7, .int .i64 s27.1), (8, .int .u8 y162.1), (22, .bool (!y162.2))]) (H2 := [.box [.str x1, .int .i64 s27.2]]) (by kernel_rfl) ?_
            refine RJ.caseB 22 (b := (!y162.2)) (by kernel_rfl) (fun hb213 => ?_) (fun hb213 => ?_)
            · have h214 := condT hb213 hy210
              refine RJ.seg 15 [0, 4, 5, 6, 7, 8, 37] (L2 := [(0, .ptr 0 0), (4, .int .i64 0), (5, .bool false), (6, .int .i64 s16.1), (7, .int .i64 s27.1), (8, .int .u8 y162.1), (37, .bool true)]) (H2 := [.box [.str x1, .int .i64 s27.2]]) (by kernel_rfl) ?_
              refine RJ.end (by kernel_rfl) ?_
              obtain rfl := Option.some.inj h214
              exact PJ.cutN [0, 4, 5, 6, 7, 8, 37] (by kernel_rfl) (by kernel_rfl)
            · have h215 := condF hb213 hy210
              refine RJ.seg 3 [0, 4, 5, 6, 7, 8, 22, 25] (L2 := [(0, .ptr 0 0), (4, .int .i64 0), (5, .bool false), (6, .int .i64 s16.1), (7, .int .i64 s27.1), (8, .int .u8 y162.1), (22, .bool false), (25, .bool (decide (s27.1 = 0)))]) (H2 := [.box [.str x1, .int .i64 s27.2]]) (by kernel_rfl) ?_
              refine RJ.caseB 25 (b := (decide (s27.1 = 0))) (by kernel_rfl) (fun hb216 => ?_) (fun hb216 => ?_)
              · have h217 := condT hb216 h215
                refine RJ.seg 5 [0, 4, 5, 6, 7, 8, 30] (L2 := [(0, .ptr 0 0), (4, .int .i64 0), (5, .bool false), (6, .int .i64 s16.1), (7, .int .i64 s27.1), (8, .int .u8 y162.1), (30, .bool (decide (y162.1 = 0)))]) (H2 := [.box [.str x1, .int .i64 s27.2]]) (by kernel_rfl) ?_
                refine RJ.caseB 30 (b := (decide (y162.1 = 0))) (by kernel_rfl) (fun hb219 => ?_) (fun hb219 => ?_)
                · have h220 := condT hb219 h217
                  refine RJ.seg 7 [0, 4, 5, 6, 7, 8, 37] (L2 := [(0, .ptr 0 0), (4, .int .i64 0), (5, .bool false), (6, .int .i64 s16.1), (7, .int .i64 s27.1), (8, .int .u8 y162.1), (37, .bool true)]) (H2 := [.box [.str x1, .int .i64 s27.2]]) (by kernel_rfl) ?_
                  refine RJ.end (by kernel_rfl) ?_
                  obtain rfl := Option.some.inj h220
                  exact PJ.cutN [0, 4, 5, 6, 7, 8, 37] (by kernel_rfl) (by kernel_rfl)
                · have h221 := condF hb219 h217
                  refine RJ.seg 7 [0, 4, 5, 6, 7, 8, 37] (L2 := [(0, .ptr 0 0), (4, .int .i64 0), (5, .bool false), (6, .int .i64 s16.1), (7, .int .i64 s27.1), (8, .int .u8 y162.1), (37, .bool ((decide (((IntKind.wrap .i64 ((IntKind.wrap .i64 (s27.1 * 10)) + (IntKind.wrap .i64 y162.1)))) > 1000))))]) (H2 := [.box [.str x1, .int .i64 s27.2]]) (by kernel_rfl) ?_
                  refine RJ.end (by kernel_rfl) ?_
                  obtain rfl := Option.some.inj h221
                  exact PJ.cutN [0, 4, 5, 6, 7, 8, 37] (by kernel_rfl) (by kernel_rfl)
              · have h218 := condF hb216 h215
                refine RJ.seg 12 [0, 4, 5, 6, 7, 8, 37] (L2 := [(0, .ptr 0 0), (4, .int .i64 0), (5, .bool false), (6, .int .i64 s16.1), (7, .int .i64 s27.1), (8, .int .u8 y162.1), (37, .bool ((decide (((IntKind.wrap .i64 ((IntKind.wrap .i64 (s27.1 * 10)) + (IntKind.wrap .i64 y162.1)))) > 1000))))]) (H2 := [.box [.str x1, .int .i64 s27.2]]) (by kernel_rfl) ?_
                refine RJ.end (by kernel_rfl) ?_
                obtain rfl := Option.some.inj h218
                exact PJ.cutN [0, 4, 5, 6, 7, 8, 37] (by kernel_rfl) (by kernel_rfl)
          · refine J.caseB 37 (b := s208) (by kernel_rfl) (fun hb222 => ?_) (fun hb222 => ?_)
            · have h223 := condT hb222 h212
              refine K.condT (by kernel_rfl) ?_
              refine K.seq (by kernel_rfl) ?_
              refine K.region (by kernel_rfl) ?_
              refine RJ.seg 7 [0, 4, 5, 6, 7, 8] (L2 := [(0, .ptr 0 0), (4, .int .i64 (IntKind.wrap .i64 (s16.1 * s27.1))), (5, .bool (decide (s27.1 > 0))), (6, .int .i64 s16.1), (7, .int .i64 s27.1), (8, .int .u8 y162.1)]) (H2 := [.box [.str x1, .int .i64 s27.2]]) (by kernel_rfl) ?_
              refine RJ.end (by kernel_rfl) ?_
              refine PJ.next ?_
              refine K.ret (by kernel_rfl) ?_
              obtain rfl := Option.some.inj h223
              have h225 := joinX_inr h197
              refine PJ.cutXr (fun e => nomatch e) ?_
              refine PJ.blockRet ?_
              obtain rfl := Option.some.inj h225
              refine PJ.loopOut (fun e => nomatch e) (fun he227 => ?_)
              have h226 := congrArg some he227
              refine PJ.blockRet ?_
              obtain rfl := Option.some.inj h226
              exact K.retV (H0 := [.box [.str x1, .int .i64 x2]]) [0] (.inr rfl) hFn hFH hFD (by kernel_rfl) (v1 := .tup [.int .i64 (IntKind.wrap .i64 (s16.1 * s27.1)), .bool (decide (s27.1 > 0))]) (by kernel_rfl) (by kernel_rfl) (by kernel_rfl) (by decide) (by kernel_rfl) (by kernel_rfl) (by kernel_rfl) (by kernel_rfl) (by kernel_rfl)
            · have h224 := condF hb222 h212
              refine K.condF (by kernel_rfl) ?_
              refine K.skip (by kernel_rfl) ?_
              obtain rfl := Option.some.inj h224
              exact PJ.cutXl [0, 4, 5, 6, 7, 8] (by kernel_rfl) (by kernel_rfl)
        · subst hs
          have h198 := joinX_inl h197
          refine K.seq (by kernel_rfl) ?_
          refine K.region (by kernel_rfl) ?_
          refine RJ.seg 6 [0, 4, 5, 6, 7] (L2 := [(0, .ptr 0 0), (4, .int .i64 0), (5, .bool false), (6, .int .i64 s16.1), (7, .int .i64 ((IntKind.wrap .i64 ((IntKind.wrap .i64 (s27.1 * 10)) + (IntKind.wrap .i64 y162.1)))))]) (H2 := [.box [.str x1, .int .i64 s27.2]]) (by kernel_rfl) ?_
          refine RJ.end (by kernel_rfl) ?_
          refine PJ.next ?_
          refine K.region (by kernel_rfl) ?_
          refine RJ.seg 8 [0, 4, 5, 6, 7] (L2 := [(0, .ptr 0 0), (4, .int .i64 0), (5, .bool false), (6, .int .i64 s16.1), (7, .int .i64 ((IntKind.wrap .i64 ((IntKind.wrap .i64 (s27.1 * 10)) + (IntKind.wrap .i64 y162.1)))))]) (H2 := [.box [.str x1, .int .i64 (IntKind.wrap .i64 (s27.2 + 1))]]) (by kernel_rfl) ?_
          refine RJ.end (by kernel_rfl) ?_
          refine PJ.blockNormal ?_
          obtain rfl := Option.some.inj h198
          exact PJ.loopNext [0, 4, 5, 6, 7] (by kernel_rfl) (by kernel_rfl)

def dec_reader__number_s0 (x0 : List UInt8) (x1 : Int) : Option (St23 × Bool × Int) :=
  (Option.bind (dec_reader__eat_s0 45 x0 x1) fun y1 => (Option.bind (dec_reader__figures_s0 x0 y1.2) fun y4 => (Option.bind (Option.bind (bif (!y4.2.1) then (some (true, y4.2.2)) else (Option.bind (dec_reader__eat_s0 101 x0 y4.2.2) fun y47 => (some ((!y47.1), y47.2)))) fun (s39 : Bool × Int) => (bif s39.1 then (some (.inr ((⟨false, ([] : List Int), 0⟩ : St23), false, s39.2))) else (some (.inl s39.2)))) (joinX fun (s28 : Int) => (Option.bind (dec_reader__power_s0 ((decide ((y4.1.length : Int) = 0))) x0 s28) fun y54 => (Option.bind (Option.bind (bif (!y54.2.1) then (some true) else (some ((decide (y54.2.2 < (x0.length : Int)))))) fun (s80 : Bool) => (bif s80 then (some (.inr ((⟨false, ([] : List Int), 0⟩ : St23), false, y54.2.2))) else (some (.inl ())))) (joinX fun (s72 : Unit) => (some ((⟨y1.1, y4.1, y54.1⟩ : St23), true, y54.2.2)))))))))
theorem dec_reader__number_s0_ok {x0 : List UInt8} {x1 : Int} {r : St23 × Bool × Int} (h : dec_reader__number_s0 x0 x1 = some r) : SC Tryd.prog 25 [.ptr 0 0] [.box [.str x0, .int .i64 x1]] (.tup [.agg [.bool r.1.Neg_, lsv (encI .u8) 1 r.1.D_, .int .i64 r.1.E_], .bool r.2.1]) [.box [.str x0, .int .i64 r.2.2]] := by
  refine K.fn (fn := Tryd.f25) (by kernel_rfl) (by kernel_rfl) (by kernel_rfl) (by kernel_rfl) (by kernel_rfl) (fun F hFn hFH hFD => ?_)
  unfold dec_reader__number_s0 at h
  refine K.seq (by kernel_rfl) ?_
  refine K.region (by kernel_rfl) ?_
  refine RJ.seg 2 [0, 2, 3] (L2 := [(0, .ptr 0 0), (2, .ptr 1 0), (3, .bool false)]) (H2 := [.box [.str x0, .int .i64 x1], .box [.bool false, .nl, .int .i64 0]]) (by kernel_rfl) ?_
  refine RJ.end (by kernel_rfl) ?_
  refine PJ.next ?_
  refine K.seq (by kernel_rfl) ?_
  refine K.region (by kernel_rfl) ?_
  refine RJ.seg 1 [0, 2, 3, 8] (L2 := [(0, .ptr 0 0), (2, .ptr 1 0), (3, .bool false), (8, .ptr 0 0)]) (H2 := [.box [.str x0, .int .i64 x1], .box [.bool false, .nl, .int .i64 0]]) (by kernel_rfl) ?_
  obtain ⟨y1, hy2, h3⟩ := bindS h
  refine RJ.callG (d := (some 9)) (f := 38) (args := [.ptr 0 0, .int .u8 45]) (args0 := [.ptr 0 0, .int .u8 45]) (v0 := .bool y1.1) (v := .bool y1.1) (tr2 := []) (H0 := [.box [.str x0, .int .i64 x1]]) (H0' := [.box [.str x0, .int .i64 y1.2]]) (H2 := [.box [.str x0, .int .i64 y1.2], .box [.bool false, .nl, .int .i64 0]]) [0] (by kernel_rfl) (by kernel_rfl) (by kernel_rfl) (by kernel_rfl) (by decide) (by kernel_rfl) (by kernel_rfl) (by kernel_rfl) (.cons (Le.refl _) (.cons (Le.refl _) .nil)) (dec_reader__eat_s0_ok hy2) (by kernel_rfl) (by kernel_rfl) (by kernel_rfl) ?_
  refine RJ.seg 1 [0, 2, 3, 4] (L2 := [(0, .ptr 0 0), (2, .ptr 1 0), (3, .bool false), (4, .bool y1.1)]) (H2 := [.box [.str x0, .int .i64 y1.2], .box [.bool false, .nl, .int .i64 0]]) (by kernel_rfl) ?_
  refine RJ.end (by kernel_rfl) ?_
  refine PJ.next ?_
  refine K.seq (by kernel_rfl) ?_
  refine K.region (by kernel_rfl) ?_
  refine RJ.seg 1 [0, 2, 3, 4, 11] (L2 := [(0, .ptr 0 0), (2, .ptr 1 0), (3, .bool false), (4, .bool y1.1), (11, .ptr 0 0)]) (H2 := [.box [.str x0, .int .i64 y1.2], .box [.bool false, .nl, .int .i64 0]]) (by kernel_rfl) ?_
  obtain ⟨y4, hy5, h6⟩ := bindS h3
  refine RJ.callG (d := (some 12)) (f := 39) (args := [.ptr 0 0]) (args0 := [.ptr 0 0]) (v0 := .tup [lsv (encI .u8) 1 y4.1, .bool y4.2.1]) (v := .tup [lsv (encI .u8) 1 y4.1, .bool y4.2.1]) (tr2 := []) (H0 := [.box [.str x0, .int .i64 y1.2]]) (H0' := [.box [.str x0, .int .i64 y4.2.2]]) (H2 := [.box [.str x0, .int .i64 y4.2.2], .box [.bool false, .nl, .int .i64 0]]) [0] (by kernel_rfl) (by kernel_rfl) (by kernel_rfl) (by kernel_rfl) (by decide) (by kernel_rfl) (by kernel_rfl) (by kernel_rfl) (.cons (Le.refl _) .nil) (dec_reader__figures_s0_ok hy5) (by kernel_rfl) (by kernel_rfl) (by kernel_rfl) ?_
  refine RJ.seg 5 [0, 2, 3, 4, 5, 6] (L2 := [(0, .ptr 0 0), (2, .ptr 1 0), (3, .bool false), (4, .bool y1.1), (5, lsv (encI .u8) 1 y4.1), (6, .bool y4.2.1)]) (H2 := [.box [.str x0, .int .i64 y4.2.2], .box [.bool false, .nl, .int .i64 0]]) (by kernel_rfl) ?_
  refine RJ.end (by kernel_rfl) ?_
  refine PJ.next ?_
  obtain ⟨y29, hy30, h31⟩ := bindS h6
  refine K.cutX (by kernel_rfl) (fun (s28 : Int) => ([(0, .ptr 0 0), (2, .ptr 1 0), (3, .bool false), (4, .bool y1.1), (5, lsv (encI .u8) 1 y4.1), (6, .bool y4.2.1)], [.box [.str x0, .int .i64 s28], .box [.bool false, .nl, .int .i64 0]])) y29 ?_ (fun s28 hs => ?_)
  · obtain ⟨s39, hy41, h43⟩ := bindS hy30
    refine K.cutN (by kernel_rfl) (fun (s39 : Bool × Int) => ([(0, .ptr 0 0), (2, .ptr 1 0), (3, .bool false), (4, .bool y1.1), (5, lsv (encI .u8) 1 y4.1), (6, .bool y4.2.1), (21, .bool s39.1)], [.box [.str x0, .int .i64 s39.2], .box [.bool false, .nl, .int .i64 0]])) s39 ?_ ?_
    · refine K.region (by kernel_rfl) ?_
      refine RJ.seg 3 [0, 2, 3, 4, 5, 6, 17] (L2 := [(0, .ptr 0 0), (2, .ptr 1 0), (3, .bool false), (4, .bool y1.1), (5, lsv (encI .u8) 1 y4.1), (6, .bool y4.2.1), (17, .bool (!y4.2.1))]) (H2 := [.box [.str x0, .int .i64 y4.2.2], .box [.bool false, .nl, .int .i64 0]]) (by kernel_rfl) ?_
      refine RJ.caseB 17 (b := (!y4.2.1)) (by kernel_rfl) (fun hb44 => ?_) (fun hb44 => ?_)
      · have h45 := condT hb44 hy41
        refine RJ.seg 4 [0, 2, 3, 4, 5, 6, 21] (L2 := [(0, .ptr 0 0), (2, .ptr 1 0), (3, .bool false), (4, .bool y1.1), (5, lsv (encI .u8) 1 y4.1), (6, .bool y4.2.1), (21, .bool true)]) (H2 := [.box [.str x0, .int .i64 y4.2.2], .box [.bool false, .nl, .int .i64 0]]) (by kernel_rfl) ?_
        refine RJ.end (by kernel_rfl) ?_
        obtain rfl := Option.some.inj h45
        exact PJ.cutN [0, 2, 3, 4, 5, 6, 21] (by kernel_rfl) (by kernel_rfl)
      · have h46 := condF hb44 hy41
        refine RJ.seg 1 [0, 2, 3, 4, 5, 6, 17, 18] (L2 := [(0, .ptr 0 0), (2, .ptr 1 0), (3, .bool false), (4, .bool y1.1), (5, lsv (encI .u8) 1 y4.1), (6, .bool y4.2.1), (17, .bool false), (18, .ptr 0 0)]) (H2 := [.box [.str x0, .int .i64 y4.2.2], .box [.bool false, .nl, .int .i64 0]]) (by kernel_rfl) ?_
        obtain ⟨y47, hy48, h49⟩ := bindS h46
        refine RJ.callG (d := (some 19)) (f := 38) (args := [.ptr 0 0, .int .u8 101]) (args0 := [.ptr 0 0, .int .u8 101]) (v0 := .bool y47.1) (v := .bool y47.1) (tr2 := []) (H0 := [.box [.str x0, .int .i64 y4.2.2]]) (H0' := [.box [.str x0, .int .i64 y47.2]]) (H2 := [.box [.str x0, .int .i64 y47.2], .box [.bool false, .nl, .int .i64 0]]) [0] (by kernel_rfl) (by kernel_rfl) (by kernel_rfl) (by kernel_rfl) (by decide) (by kernel_rfl) (by kernel_rfl) (by kernel_rfl) (.cons (Le.refl _) (.cons (Le.refl _) .nil)) (dec_reader__eat_s0_ok hy48) (by kernel_rfl) (by kernel_rfl) (by kernel_rfl) ?_
        refine RJ.seg 2 [0, 2, 3, 4, 5, 6, 21] (L2 := [(0, .ptr 0 0), (2, .ptr 1 0), (3, .bool false), (4, .bool y1.1), (5, lsv (encI .u8) 1 y4.1), (6, .bool y4.2.1), (21, .bool (!y47.1))]) (H2 := [.box [.str x0, .int .i64 y47.2], .box [.bool false, .nl, .int .i64 0]]) (by kernel_rfl) ?_
        refine RJ.end (by kernel_rfl) ?_
        obtain rfl := Option.some.inj h49
        exact PJ.cutN [0, 2, 3, 4, 5, 6, 21] (by kernel_rfl) (by kernel_rfl)
    · refine J.caseB 21 (b := s39.1) (by kernel_rfl) (fun hb50 => ?_) (fun hb50 => ?_)
      · have h51 := condT hb50 h43
        refine K.condT (by kernel_rfl) ?_
        refine K.seq (by kernel_rfl) ?_
        refine K.region (by kernel_rfl) ?_
        refine RJ.seg 3 [0, 2, 3, 4, 5, 6] (L2 := [(0, .ptr 0 0), (2, .ptr 1 0), (3, .bool false), (4, .bool y1.1), (5, lsv (encI .u8) 1 y4.1), (6, .bool y4.2.1)]) (H2 := [.box [.str x0, .int .i64 s39.2], .box [.bool false, .nl, .int .i64 0]]) (by kernel_rfl) ?_
        refine RJ.end (by kernel_rfl) ?_
        refine PJ.next ?_
        refine K.ret (by kernel_rfl) ?_
        obtain rfl := Option.some.inj h51
        have h53 := joinX_inr h31
        refine PJ.cutXr (fun e => nomatch e) ?_
        obtain rfl := Option.some.inj h53
        refine PJ.res (v1 := .tup [.agg [.bool false, .nl, .int .i64 0], .bool false]) (Le.tup (.cons (Le.agg (.cons (Le.refl _) (.cons (Le.nl _) (.cons (Le.refl _) .nil)))) (.cons (Le.refl _) .nil))) ?_
        exact K.retV (H0 := [.box [.str x0, .int .i64 x1]]) [0] (.inr rfl) hFn hFH hFD (by kernel_rfl) (v1 := .tup [.agg [.bool false, .nl, .int .i64 0], .bool false]) (by kernel_rfl) (by kernel_rfl) (by kernel_rfl) (by decide) (by kernel_rfl) (by kernel_rfl) (by kernel_rfl) (by kernel_rfl) (by kernel_rfl)
      · have h52 := condF hb50 h43
        refine K.condF (by kernel_rfl) ?_
        refine K.skip (by kernel_rfl) ?_
        obtain rfl := Option.some.inj h52
        exact PJ.cutXl [0, 2, 3, 4, 5, 6] (by kernel_rfl) (by kernel_rfl)
  · subst hs
    have h32 := joinX_inl h31
    refine K.seq (by kernel_rfl) ?_
    refine K.region (by kernel_rfl) ?_
    refine RJ.seg 4 [0, 2, 3, 4, 5, 6, 24, 27] (L2 := [(0, .ptr 0 0), (2, .ptr 1 0), (3, .bool false), (4, .bool y1.1), (5, lsv (encI .u8) 1 y4.1), (6, .bool y4.2.1), (24, .ptr 0 0), (27, .bool ((decide ((y4.1.length : Int) = 0))))]) (H2 := [.box [.str x0, .int .i64 s28], .box [.bool false, .nl, .int .i64 0]]) (by kernel_rfl) ?_
    obtain ⟨y54, hy55, h56⟩ := bindS h32
    refine RJ.callG (d := (some 28)) (f := 40) (args := [.ptr 0 0, .bool ((decide ((y4.1.length : Int) = 0)))]) (args0 := [.ptr 0 0, .bool ((decide ((y4.1.length : Int) = 0)))]) (v0 := .tup [.int .i64 y54.1, .bool y54.2.1]) (v := .tup [.int .i64 y54.1, .bool y54.2.1]) (tr2 := []) (H0 := [.box [.str x0, .int .i64 s28]]) (H0' := [.box [.str x0, .int .i64 y54.2.2]]) (H2 := [.box [.str x0, .int .i64 y54.2.2], .box [.bool false, .nl, .int .i64 0]]) [0] (by kernel_rfl) (by kernel_rfl) (by kernel_rfl) (by kernel_rfl) (by decide) (by kernel_rfl) (by kernel_rfl) (by kernel_rfl) (.cons (Le.refl _) (.cons (Le.refl _) .nil)) (dec_reader__power_s0_ok hy55) (by kernel_rfl) (by kernel_rfl) (by kernel_rfl) ?_
    refine RJ.seg 5 [0, 2, 3, 4, 5, 6, 7] (L2 := [(0, .ptr 0 0), (2, .ptr 1 0), (3, .bool false), (4, .bool y1.1), (5, lsv (encI .u8) 1 y4.1), (6, .bool y54.2.1), (7, .int .i64 y54.1)]) (H2 := [.box [.str x0, .int .i64 y54.2.2], .box [.bool false, .nl, .int .i64 0]]) (by kernel_rfl) ?_
    refine RJ.end (by kernel_rfl) ?_
    refine PJ.next ?_
    obtain ⟨y73, hy74, h75⟩ := bindS h56
    refine K.cutX (by kernel_rfl) (fun (s72 : Unit) => ([(2, .ptr 1 0), (3, .bool false), (4, .bool y1.1), (5, lsv (encI .u8) 1 y4.1), (7, .int .i64 y54.1)], [.box [.str x0, .int .i64 y54.2.2], .box [.bool false, .nl, .int .i64 0]])) y73 ?_ (fun s72 hs => ?_)
    · obtain ⟨s80, hy82, h84⟩ := bindS hy74
      refine K.cutN (by kernel_rfl) (fun (s80 : Bool) => ([(2, .ptr 1 0), (3, .bool false), (4, .bool y1.1), (5, lsv (encI .u8) 1 y4.1), (7, .int .i64 y54.1), (44, .bool s80)], [.box [.str x0, .int .i64 y54.2.2], .box [.bool false, .nl, .int .i64 0]])) s80 ?_ ?_
      · refine J.keep [0, 2, 3, 4, 5, 6, 7] (L2 := [(0, .ptr 0 0), (2, .ptr 1 0), (3, .bool false), (4, .bool y1.1), (5, lsv (encI .u8) 1 y4.1), (6, .bool y54.2.1), (7, .int .i64 y54.1)]) (by kernel_rfl) ?_
        refine K.draw (by kernel_rfl) (by kernel_rfl) (by kernel_rfl) (H2 := [.box [.str x0, .int .i64 y54.2.2], .box [.bool false, .nl, .int .i64 0]]) (by kernel_rfl) (n := 2) (by kernel_rfl) ?_
        refine RJ.segD 3 (tr2 := [([], []), ([], []), ([], [])]) (L2 := [(33, .bool (!y54.2.1)), (32, .bool (!y54.2.1)), (31, .bool y54.2.1), (0, .ptr 0 0), (2, .ptr 1 0), (3, .bool false), (4, .bool y1.1), (5, lsv (encI .u8) 1 y4.1), (6, .bool y54.2.1), (7, .int .i64 y54.1)]) (H2 := [.box [.str x0, .int .i64 y54.2.2], .box [.bool false, .nl, .int .i64 0]]) (by kernel_rfl) ?_
        refine RJ.caseB 33 (b := (!y54.2.1)) (by kernel_rfl) (fun hb85 => ?_) (fun hb85 => ?_)
        · have h86 := condT hb85 hy82
          refine RJ.segD 11 (tr2 := [([], []), ([], []), ([], []), ([], []), ([], []), ([], []), ([], []), ([], []), ([], []), ([], []), ([], []), ([], []), ([], []), ([], [])]) (L2 := [(44, .bool true), (43, .tup []), (42, .tup []), (41, .tup []), (40, .tup []), (39, .tup []), (38, .tup []), (37, .tup []), (36, .tup []), (35, .tup []), (34, .tup []), (33, .bool true), (33, .bool (!y54.2.1)), (32, .bool (!y54.2.1)), (31, .bool y54.2.1), (0, .ptr 0 0), (2, .ptr 1 0), (3, .bool false), (4, .bool y1.1), (5, lsv (encI .u8) 1 y4.1), (6, .bool y54.2.1), (7, .int .i64 y54.1)]) (H2 := [.box [.str x0, .int .i64 y54.2.2], .box [.bool false, .nl, .int .i64 0]]) (by kernel_rfl) ?_
          refine RJ.end (by kernel_rfl) ?_
          obtain rfl := Option.some.inj h86
          exact PJ.cutN [2, 3, 4, 5, 7, 44] (by kernel_rfl) (by kernel_rfl)
        · have h87 := condF hb85 hy82
          refine RJ.segD 11 (tr2 := [([], []), ([], []), ([], []), ([], []), ([], []), ([], []), ([0, 1], []), ([], []), ([], []), ([], []), ([0, 1], []), ([], []), ([], []), ([], [])]) (L2 := [(44, .bool ((decide (y54.2.2 < (x0.length : Int))))), (43, .bool ((decide (y54.2.2 < (x0.length : Int))))), (42, .int .i64 (x0.length : Int)), (41, .str x0), (40, .ptr 0 0), (39, .ptr 0 0), (38, .ptr 0 0), (37, .int .i64 y54.2.2), (36, .ptr 0 1), (35, .ptr 0 0), (34, .ptr 0 0), (33, .bool false), (33, .bool (!y54.2.1)), (32, .bool (!y54.2.1)), (31, .bool y54.2.1), (0, .ptr 0 0), (2, .ptr 1 0), (3, .bool false), (4, .bool y1.1), (5, lsv (encI .u8) 1 y4.1), (6, .bool y54.2.1), (7, .int .i64 y54.1)]) (H2 := [.box [.str x0, .int .i64 y54.2.2], .box [.bool false, .nl, .int .i64 0]]) (by kernel_rfl) ?_
          refine RJ.end (by kernel_rfl) ?_
          obtain rfl := Option.some.inj h87
          exact PJ.cutN [2, 3, 4, 5, 7, 44] (by kernel_rfl) (by kernel_rfl)
      · refine J.caseB 44 (b := s80) (by kernel_rfl) (fun hb88 => ?_) (fun hb88 => ?_)
        · have h89 := condT hb88 h84
          refine K.condT (by kernel_rfl) ?_
          refine K.seq (by kernel_rfl) ?_
          refine K.region (by kernel_rfl) ?_
          refine RJ.seg 3 [2, 3, 4, 5, 7] (L2 := [(2, .ptr 1 0), (3, .bool false), (4, .bool y1.1), (5, lsv (encI .u8) 1 y4.1), (7, .int .i64 y54.1)]) (H2 := [.box [.str x0, .int .i64 y54.2.2], .box [.bool false, .nl, .int .i64 0]]) (by kernel_rfl) ?_
          refine RJ.end (by kernel_rfl) ?_
          refine PJ.next ?_
          refine K.ret (by kernel_rfl) ?_
          obtain rfl := Option.some.inj h89
          have h91 := joinX_inr h75
          refine PJ.cutXr (fun e => nomatch e) ?_
          obtain rfl := Option.some.inj h91
          refine PJ.res (v1 := .tup [.agg [.bool false, .nl, .int .i64 0], .bool false]) (Le.tup (.cons (Le.agg (.cons (Le.refl _) (.cons (Le.nl _) (.cons (Le.refl _) .nil)))) (.cons (Le.refl _) .nil))) ?_
          exact K.retV (H0 := [.box [.str x0, .int .i64 x1]]) [0] (.inr rfl) hFn hFH hFD (by kernel_rfl) (v1 := .tup [.agg [.bool false, .nl, .int .i64 0], .bool false]) (by kernel_rfl) (by kernel_rfl) (by kernel_rfl) (by decide) (by kernel_rfl) (by kernel_rfl) (by kernel_rfl) (by kernel_rfl) (by kernel_rfl)
        · have h90 := condF hb88 h84
          refine K.condF (by kernel_rfl) ?_
          refine K.skip (by kernel_rfl) ?_
          obtain rfl := Option.some.inj h90
          exact PJ.cutXl [2, 3, 4, 5, 7] (by kernel_rfl) (by kernel_rfl)
    · subst hs
      have h76 := joinX_inl h75
      refine K.seq (by kernel_rfl) ?_
      refine K.region (by kernel_rfl) ?_
      refine RJ.seg 6 [2, 3] (L2 := [(2, .ptr 1 0), (3, .bool true)]) (H2 := [.box [.str x0, .int .i64 y54.2.2], .box [.bool y1.1, lsv (encI .u8) 1 y4.1, .int .i64 y54.1]]) (by kernel_rfl) ?_
      refine RJ.end (by kernel_rfl) ?_
      refine PJ.next ?_
      refine K.ret (by kernel_rfl) ?_
      obtain rfl := Option.some.inj h76
      exact K.retV (H0 := [.box [.str x0, .int .i64 x1]]) [0] (.inr rfl) hFn hFH hFD (by kernel_rfl) (v1 := .tup [.agg [.bool y1.1, lsv (encI .u8) 1 y4.1, .int .i64 y54.1], .bool true]) (by kernel_rfl) (by kernel_rfl) (by kernel_rfl) (by decide) (by kernel_rfl) (by kernel_rfl) (by kernel_rfl) (by kernel_rfl) (by kernel_rfl)

def dec_Read (x0 : List UInt8) : Option (St23 × Int × Int) :=
  (Option.bind (dec_reader__number_s0 x0 0) fun y1 => (bif (!y1.2.1) then (some ((⟨false, ([] : List Int), 0⟩ : St23), y1.2.2, 2)) else (some (y1.1, 0, 0))))
theorem dec_Read_ok {x0 : List UInt8} {r : St23 × Int × Int} (h : dec_Read x0 = some r) : SC Tryd.prog 11 [.str x0] [] (.tup [.agg [.bool r.1.Neg_, lsv (encI .u8) 1 r.1.D_, .int .i64 r.1.E_], .int .i64 r.2.1, .int .i64 r.2.2]) [] := by
  refine K.fn (fn := Tryd.f11) (by kernel_rfl) (by kernel_rfl) (by kernel_rfl) (by kernel_rfl) (by kernel_rfl) (fun F hFn hFH hFD => ?_)
  unfold dec_Read at h
  refine K.seq (by kernel_rfl) ?_
  refine K.region (by kernel_rfl) ?_
  refine RJ.seg 3 [0, 2, 3, 4] (L2 := [(0, .str x0), (2, .ptr 0 0), (3, .int .i64 0), (4, .int .i64 0)]) (H2 := [.box [.bool false, .nl, .int .i64 0]]) (by kernel_rfl) ?_
  refine RJ.end (by kernel_rfl) ?_
  refine PJ.next ?_
  refine K.seq (by kernel_rfl) ?_
  refine K.region (by kernel_rfl) ?_
  refine RJ.seg 4 [2, 3, 4, 5] (L2 := [(2, .ptr 0 0), (3, .int .i64 0), (4, .int .i64 0), (5, .ptr 1 0)]) (H2 := [.box [.bool false, .nl, .int .i64 0], .box [.str x0, .int .i64 0]]) (by kernel_rfl) ?_
  refine RJ.end (by kernel_rfl) ?_
  refine PJ.next ?_
  refine K.seq (by kernel_rfl) ?_
  refine K.region (by kernel_rfl) ?_
  refine RJ.seg 1 [2, 3, 4, 5, 12] (L2 := [(2, .ptr 0 0), (3, .int .i64 0), (4, .int .i64 0), (5, .ptr 1 0), (12, .ptr 1 0)]) (H2 := [.box [.bool false, .nl, .int .i64 0], .box [.str x0, .int .i64 0]]) (by kernel_rfl) ?_
  obtain ⟨y1, hy2, h3⟩ := bindS h
  refine RJ.callG (d := (some 13)) (f := 25) (args := [.ptr 1 0]) (args0 := [.ptr 0 0]) (v0 := .tup [.agg [.bool y1.1.Neg_, lsv (encI .u8) 1 y1.1.D_, .int .i64 y1.1.E_], .bool y1.2.1]) (v := .tup [.agg [.bool y1.1.Neg_, lsv (encI .u8) 1 y1.1.D_, .int .i64 y1.1.E_], .bool y1.2.1]) (tr2 := []) (H0 := [.box [.str x0, .int .i64 0]]) (H0' := [.box [.str x0, .int .i64 y1.2.2]]) (H2 := [.box [.bool false, .nl, .int .i64 0], .box [.str x0, .int .i64 y1.2.2]]) [1] (by kernel_rfl) (by kernel_rfl) (by kernel_rfl) (by kernel_rfl) (by decide) (by kernel_rfl) (by kernel_rfl) (by kernel_rfl) (.cons (Le.refl _) .nil) (dec_reader__number_s0_ok hy2) (by kernel_rfl) (by kernel_rfl) (by kernel_rfl) ?_
  refine RJ.seg 6 [2, 3, 4, 5, 6, 7] (L2 := [(2, .ptr 0 0), (3, .int .i64 0), (4, .int .i64 0), (5, .ptr 1 0), (6, .ptr 2 0), (7, .bool y1.2.1)]) (H2 := [.box [.bool false, .nl, .int .i64 0], .box [.str x0, .int .i64 y1.2.2], .box [.bool y1.1.Neg_, lsv (encI .u8) 1 y1.1.D_, .int .i64 y1.1.E_]]) (by kernel_rfl) ?_
  refine RJ.end (by kernel_rfl) ?_
  refine PJ.next ?_
  refine K.seq (by kernel_rfl) ?_
  refine K.seq (by kernel_rfl) ?_
  refine K.region (by kernel_rfl) ?_
  refine RJ.seg 2 [2, 3, 4, 5, 6, 17] (L2 := [(2, .ptr 0 0), (3, .int .i64 0), (4, .int .i64 0), (5, .ptr 1 0), (6, .ptr 2 0), (17, .bool (!y1.2.1))]) (H2 := [.box [.bool false, .nl, .int .i64 0], .box [.str x0, .int .i64 y1.2.2], .box [.bool y1.1.Neg_, lsv (encI .u8) 1 y1.1.D_, .int .i64 y1.1.E_]]) (by kernel_rfl) ?_
  refine RJ.end (by kernel_rfl) ?_
  refine PJ.next ?_
  refine J.caseB 17 (b := (!y1.2.1)) (by kernel_rfl) (fun hb4 => ?_) (fun hb4 => ?_)
  · have h5 := condT hb4 h3
    refine K.condT (by kernel_rfl) ?_
    refine K.seq (by kernel_rfl) ?_
    refine J.keep [2, 3, 4, 5, 6] (L2 := [(2, .ptr 0 0), (3, .int .i64 0), (4, .int .i64 0), (5, .ptr 1 0), (6, .ptr 2 0)]) (by kernel_rfl) ?_
    refine K.draw (by kernel_rfl) (by kernel_rfl) (by kernel_rfl) (H2 := [.box [.bool false, .nl, .int .i64 0], .box [.str x0, .int .i64 y1.2.2], .box [.bool y1.1.Neg_, lsv (encI .u8) 1 y1.1.D_, .int .i64 y1.1.E_]]) (by kernel_rfl) (n := 3) (by kernel_rfl) ?_
    refine RJ.segD 8 (tr2 := [([], []), ([], []), ([], []), ([], []), ([2, 3], []), ([0, 1], [0]), ([], []), ([], [])]) (L2 := [(4, .int .i64 2), (3, .int .i64 y1.2.2), (22, .int .i64 y1.2.2), (21, .ptr 1 1), (20, .ptr 1 0), (19, .ptr 1 0), (18, .agg [.bool false, .nl, .int .i64 0]), (2, .ptr 0 0), (3, .int .i64 0), (4, .int .i64 0), (5, .ptr 1 0), (6, .ptr 2 0)]) (H2 := [.box [.bool false, .nl, .int .i64 0], .box [.str x0, .int .i64 y1.2.2], .box [.bool y1.1.Neg_, lsv (encI .u8) 1 y1.1.D_, .int .i64 y1.1.E_]]) (by kernel_rfl) ?_
    refine RJ.end (by kernel_rfl) ?_
    refine PJ.next ?_
    refine K.ret (by kernel_rfl) ?_
    refine PJ.passRet ?_
    obtain rfl := Option.some.inj h5
    refine PJ.res (v1 := .tup [.agg [.bool false, .nl, .int .i64 0], .int .i64 y1.2.2, .int .i64 2]) (Le.tup (.cons (Le.agg (.cons (Le.refl _) (.cons (Le.nl _) (.cons (Le.refl _) .nil)))) (.cons (Le.refl _) (.cons (Le.refl _) .nil)))) ?_
    exact K.ret0 (.inr rfl) hFn hFH hFD (by kernel_rfl) (by kernel_rfl) (by kernel_rfl)
  · have h6 := condF hb4 h3
    refine K.condF (by kernel_rfl) ?_
    refine K.skip (by kernel_rfl) ?_
    refine PJ.next ?_
    refine K.seq (by kernel_rfl) ?_
    refine K.region (by kernel_rfl) ?_
    refine RJ.seg 4 [2, 3, 4] (L2 := [(2, .ptr 0 0), (3, .int .i64 0), (4, .int .i64 0)]) (H2 := [.box [.bool y1.1.Neg_, lsv (encI .u8) 1 y1.1.D_, .int .i64 y1.1.E_], .box [.str x0, .int .i64 y1.2.2], .box [.bool y1.1.Neg_, lsv (encI .u8) 1 y1.1.D_, .int .i64 y1.1.E_]]) (by kernel_rfl) ?_
    refine RJ.end (by kernel_rfl) ?_
    refine PJ.next ?_
    refine K.ret (by kernel_rfl) ?_
    obtain rfl := Option.some.inj h6
    exact K.ret0 (.inr rfl) hFn hFH hFD (by kernel_rfl) (by kernel_rfl) (by kernel_rfl)

def strconv_small (x0 : Int) : Option (List UInt8) :=
  (bif (decide (x0 < 10)) then (bif inS x0 (IntKind.wrap .i64 (x0 + 1)) ([48, 49, 50, 51, 52, 53, 54, 55, 56, 57, 97, 98, 99, 100, 101, 102, 103, 104, 105, 106, 107, 108, 109, 110, 111, 112, 113, 114, 115, 116, 117, 118, 119, 120, 121, 122] : List UInt8).length then (some (cut ([48, 49, 50, 51, 52, 53, 54, 55, 56, 57, 97, 98, 99, 100, 101, 102, 103, 104, 105, 106, 107, 108, 109, 110, 111, 112, 113, 114, 115, 116, 117, 118, 119, 120, 121, 122] : List UInt8) x0 (IntKind.wrap .i64 (x0 + 1)))) else none) else (bif inS (IntKind.wrap .i64 (x0 * 2)) ((IntKind.wrap .i64 ((IntKind.wrap .i64 (x0 * 2)) + 2))) ([48, 48, 48, 49, 48, 50, 48, 51, 48, 52, 48, 53, 48, 54, 48, 55, 48, 56, 48, 57, 49, 48, 49, 49, 49, 50, 49, 51, 49, 52, 49, 53, 49, 54, 49, 55, 49, 56, 49, 57, 50, 48, 50, 49, 50, 50, 50, 51, 50, 52, 50, 53, 50, 54, 50, 55, 50, 56, 50, 57, 51, 48, 51, 49, 51, 50, 51, 51, 51, 52, 51, 53, 51, 54, 51, 55, 51, 56, 51, 57, 52, 48, 52, 49, 52, 50, 52, 51, 52, 52, 52, 53, 52, 54, 52, 55, 52, 56, 52, 57, 53, 48, 53, 49, 53, 50, 53, 51, 53, 52, 53, 53, 53, 54, 53, 55, 53, 56, 53, 57, 54, 48, 54, 49, 54, 50, 54, 51, 54, 52, 54, 53, 54, 54, 54, 55, 54, 56, 54, 57, 55, 48, 55, 49, 55, 50, 55, 51, 55, 52, 55, 53, 55, 54, 55, 55, 55, 56, 55, 57, 56, 48, 56, 49, 56, 50, 56, 51, 56, 52, 56, 53, 56, 54, 56, 55, 56, 56, 56, 57, 57, 48, 57, 49, 57, 50, 57, 51, 57, 52, 57, 53, 57, 54, 57, 55, 57, 56, 57, 57] : List UInt8).length then (some (cut ([48, 48, 48, 49, 48, 50, 48, 51, 48, 52, 48, 53, 48, 54, 48, 55, 48, 56, 48, 57, 49, 48, 49, 49, 49, 50, 49, 51, 49, 52, 49, 53, 49, 54, 49, 55, 49, 56, 49, 57, 50, 48, 50, 49, 50, 50, 50, 51, 50, 52, 50, 53, 50, 54, 50, 55, 50, 56, 50, 57, 51, 48, 51, 49, 51, 50, 51, 51, 51, 52, 51, 53, 51, 54, 51, 55, 51, 56, 51, 57, 52, 48, 52, 49, 52, 50, 52, 51, 52, 52, 52, 53, 52, 54, 52, 55, 52, 56, 52, 57, 53, 48, 53, 49, 53, 50, 53, 51, 53, 52, 53, 53, 53, 54, 53, 55, 53, 56, 53, 57, 54, 48, 54, 49, 54, 50, 54, 51, 54, 52, 54, 53, 54, 54, 54, 55, 54, 56, 54, 57, 55, 48, 55, 49, 55, 50, 55, 51, 55, 52, 55, 53, 55, 54, 55, 55, 55, 56, 55, 57, 56, 48, 56, 49, 56, 50, 56, 51, 56, 52, 56, 53, 56, 54, 56, 55, 56, 56, 56, 57, 57, 48, 57, 49, 57, 50, 57, 51, 57, 52, 57, 53, 57, 54, 57, 55, 57, 56, 57, 57] : List UInt8) (IntKind.wrap .i64 (x0 * 2)) ((IntKind.wrap .i64 ((IntKind.wrap .i64 (x0 * 2)) + 2))))) else none))
theorem strconv_small_ok {x0 : Int} {r : List UInt8} (h : strconv_small x0 = some r) : SC Tryd.prog 44 [.int .i64 x0] [] (.str r) [] := by
  refine K.fn (fn := Tryd.f44) (by kernel_rfl) (by kernel_rfl) (by kernel_rfl) (by kernel_rfl) (by kernel_rfl) (fun F hFn hFH hFD => ?_)
  unfold strconv_small at h
  refine K.seq (by kernel_rfl) ?_
  refine K.region (by kernel_rfl) ?_
  refine RJ.seg 1 [0, 2] (L2 := [(0, .int .i64 x0), (2, .str ([] : List UInt8))]) (H2 := []) (by kernel_rfl) ?_
  refine RJ.end (by kernel_rfl) ?_
  refine PJ.next ?_
  refine K.seq (by kernel_rfl) ?_
  refine K.seq (by kernel_rfl) ?_
  refine K.region (by kernel_rfl) ?_
  refine RJ.seg 2 [0, 2, 4] (L2 := [(0, .int .i64 x0), (2, .str ([] : List UInt8)), (4, .bool (decide (x0 < 10)))]) (H2 := []) (by kernel_rfl) ?_
  refine RJ.end (by kernel_rfl) ?_
  refine PJ.next ?_
  refine J.caseB 4 (b := (decide (x0 < 10))) (by kernel_rfl) (fun hb1 => ?_) (fun hb1 => ?_)
  · have h2 := condT hb1 h
    refine K.condT (by kernel_rfl) ?_
    refine K.seq (by kernel_rfl) ?_
    refine K.region (by kernel_rfl) ?_
    refine RJ.seg 3 [0, 2, 5, 7] (L2 := [(0, .int .i64 x0), (2, .str ([] : List UInt8)), (5, .int .i64 x0), (7, .int .i64 (IntKind.wrap .i64 (x0 + 1)))]) (H2 := []) (by kernel_rfl) ?_
    obtain ⟨hm, h4⟩ := asrt h2
    refine RJ.rel (d := (some 8)) (ef := ⟨.str (cut ([48, 49, 50, 51, 52, 53, 54, 55, 56, 57, 97, 98, 99, 100, 101, 102, 103, 104, 105, 106, 107, 108, 109, 110, 111, 112, 113, 114, 115, 116, 117, 118, 119, 120, 121, 122] : List UInt8) x0 (IntKind.wrap .i64 (x0 + 1))), [], []⟩) (ef' := ⟨.str (cut ([48, 49, 50, 51, 52, 53, 54, 55, 56, 57, 97, 98, 99, 100, 101, 102, 103, 104, 105, 106, 107, 108, 109, 110, 111, 112, 113, 114, 115, 116, 117, 118, 119, 120, 121, 122] : List UInt8) x0 (IntKind.wrap .i64 (x0 + 1))), [], []⟩) (c := inS x0 (IntKind.wrap .i64 (x0 + 1)) ([48, 49, 50, 51, 52, 53, 54, 55, 56, 57, 97, 98, 99, 100, 101, 102, 103, 104, 105, 106, 107, 108, 109, 110, 111, 112, 113, 114, 115, 116, 117, 118, 119, 120, 121, 122] : List UInt8).length) (tr2 := []) (H2 := []) (by kernel_rfl) hm (fun hc => rfl) (by kernel_rfl) ?_
    refine RJ.seg 1 [0, 2] (L2 := [(0, .int .i64 x0), (2, .str ((cut ([48, 49, 50, 51, 52, 53, 54, 55, 56, 57, 97, 98, 99, 100, 101, 102, 103, 104, 105, 106, 107, 108, 109, 110, 111, 112, 113, 114, 115, 116, 117, 118, 119, 120, 121, 122] : List UInt8) x0 (IntKind.wrap .i64 (x0 + 1)))))]) (H2 := []) (by kernel_rfl) ?_
    refine RJ.end (by kernel_rfl) ?_
    refine PJ.next ?_
    refine K.ret (by kernel_rfl) ?_
    refine PJ.passRet ?_
    obtain rfl := Option.some.inj h4
    exact K.ret0 (.inr rfl) hFn hFH hFD (by kernel_rfl) (by kernel_rfl) (by kernel_rfl)
  · have h3 := condF hb1 h
    refine K.condF (by kernel_rfl) ?_
    refine K.skip (by kernel_rfl) ?_
    refine PJ.next ?_
    refine K.seq (by kernel_rfl) ?_
    refine K.region (by kernel_rfl) ?_
    refine RJ.seg 5 [2, 10, 13] (L2 := [(2, .str ([] : List UInt8)), (10, .int .i64 (IntKind.wrap .i64 (x0 * 2))), (13, .int .i64 ((IntKind.wrap .i64 ((IntKind.wrap .i64 (x0 * 2)) + 2))))]) (H2 := []) (by kernel_rfl) ?_
    obtain ⟨hm, h5⟩ := asrt h3
    refine RJ.rel (d := (some 14)) (ef := ⟨.str (cut ([48, 48, 48, 49, 48, 50, 48, 51, 48, 52, 48, 53, 48, 54, 48, 55, 48, 56, 48, 57, 49, 48, 49, 49, 49, 50, 49, 51, 49, 52, 49, 53, 49, 54, 49, 55, 49, 56, 49, 57, 50, 48, 50, 49, 50, 50, 50, 51, 50, 52, 50, 53, 50, 54, 50, 55, 50, 56, 50, 57, 51, 48, 51, 49, 51, 50, 51, 51, 51, 52, 51, 53, 51, 54, 51, 55, 51, 56, 51, 57, 52, 48, 52, 49, 52, 50, 52, 51, 52, 52, 52, 53, 52, 54, 52, 55, 52, 56, 52, 57, 53, 48, 53, 49, 53, 50, 53, 51, 53, 52, 53, 53, 53, 54, 53, 55, 53, 56, 53, 57, 54, 48, 54, 49, 54, 50, 54, 51, 54, 52, 54, 53, 54, 54, 54, 55, 54, 56, 54, 57, 55, 48, 55, 49, 55, 50, 55, 51, 55, 52, 55, 53, 55, 54, 55, 55, 55, 56, 55, 57, 56, 48, 56, 49, 56, 50, 56, 51, 56, 52, 56, 53, 56, 54, 56, 55, 56, 56, 56, 57, 57, 48, 57, 49, 57, 50, 57, 51, 57, 52, 57, 53, 57, 54, 57, 55, 57, 56, 57, 57] : List UInt8) (IntKind.wrap .i64 (x0 * 2)) ((IntKind.wrap .i64 ((IntKind.wrap .i64 (x0 * 2)) + 2)))), [], []⟩) (ef' := ⟨.str (cut ([48, 48, 48, 49, 48, 50, 48, 51, 48, 52, 48, 53, 48, 54, 48, 55, 48, 56, 48, 57, 49, 48, 49, 49, 49, 50, 49, 51, 49, 52, 49, 53, 49, 54, 49, 55, 49, 56, 49, 57, 50, 48, 50, 49, 50, 50, 50, 51, 50, 52, 50, 53, 50, 54, 50, 55, 50, 56, 50, 57, 51, 48, 51, 49, 51, 50, 51, 51, 51, 52, 51, 53, 51, 54, 51, 55, 51, 56, 51, 57, 52, 48, 52, 49, 52, 50, 52, 51, 52, 52, 52, 53, 52, 54, 52, 55, 52, 56, 52, 57, 53, 48, 53, 49, 53, 50, 53, 51, 53, 52, 53, 53, 53, 54, 53, 55, 53, 56, 53, 57, 54, 48, 54, 49, 54, 50, 54, 51, 54, 52, 54, 53, 54, 54, 54, 55, 54, 56, 54, 57, 55, 48, 55, 49, 55, 50, 55, 51, 55, 52, 55, 53, 55, 54, 55, 55, 55, 56, 55, 57, 56, 48, 56, 49, 56, 50, 56, 51, 56, 52, 56, 53, 56, 54, 56, 55, 56, 56, 56, 57, 57, 48, 57, 49, 57, 50, 57, 51, 57, 52, 57, 53, 57, 54, 57, 55, 57, 56, 57, 57] : List UInt8) (IntKind.wrap .i64 (x0 * 2)) ((IntKind.wrap .i64 ((IntKind.wrap .i64 (x0 * 2)) + 2)))), [], []⟩) (c := inS (IntKind.wrap .i64 (x0 * 2)) ((IntKind.wrap .i64 ((IntKind.wrap .i64 (x0 * 2)) + 2))) ([48, 48, 48, 49, 48, 50, 48, 51, 48, 52, 48, 53, 48, 54, 48, 55, 48, 56, 48, 57, 49, 48, 49, 49, 49, 50, 49, 51, 49, 52, 49, 53, 49, 54, 49, 55, 49, 56, 49, 57, 50, 48, 50, 49, 50, 50, 50, 51, 50, 52, 50, 53, 50, 54, 50, 55, 50, 56, 50, 57, 51, 48, 51, 49, 51, 50, 51, 51, 51, 52, 51, 53, 51, 54, 51, 55, 51, 56, 51, 57, 52, 48, 52, 49, 52, 50, 52, 51, 52, 52, 52, 53, 52, 54, 52, 55, 52, 56, 52, 57, 53, 48, 53, 49, 53, 50, 53, 51, 53, 52, 53, 53, 53, 54, 53, 55, 53, 56, 53, 57, 54, 48, 54, 49, 54, 50, 54, 51, 54, 52, 54, 53, 54, 54, 54, 55, 54, 56, 54, 57, 55, 48, 55, 49, 55, 50, 55, 51, 55, 52, 55, 53, 55, 54, 55, 55, 55, 56, 55, 57, 56, 48, 56, 49, 56, 50, 56, 51, 56, 52, 56, 53, 56, 54, 56, 55, 56, 56, 56, 57, 57, 48, 57, 49, 57, 50, 57, 51, 57, 52, 57, 53, 57, 54, 57, 55, 57, 56, 57, 57] : List UInt8).length) (tr2 := []) (H2 := []) (by kernel_rfl) hm (fun hc => rfl) (by kernel_rfl) ?_
    refine RJ.seg 1 [2] (L2 := [(2, .str ((cut ([48, 48, 48, 49, 48, 50, 48, 51, 48, 52, 48, 53, 48, 54, 48, 55, 48, 56, 48, 57, 49, 48, 49, 49, 49, 50, 49, 51, 49, 52, 49, 53, 49, 54, 49, 55, 49, 56, 49, 57, 50, 48, 50, 49, 50, 50, 50, 51, 50, 52, 50, 53, 50, 54, 50, 55, 50, 56, 50, 57, 51, 48, 51, 49, 51, 50, 51, 51, 51, 52, 51, 53, 51, 54, 51, 55, 51, 56, 51, 57, 52, 48, 52, 49, 52, 50, 52, 51, 52, 52, 52, 53, 52, 54, 52, 55, 52, 56, 52, 57, 53, 48, 53, 49, 53, 50, 53, 51, 53, 52, 53, 53, 53, 54, 53, 55, 53, 56, 53, 57, 54, 48, 54, 49, 54, 50, 54, 51, 54, 52, 54, 53, 54, 54, 54, 55, 54, 56, 54, 57, 55, 48, 55, 49, 55, 50, 55, 51, 55, 52, 55, 53, 55, 54, 55, 55, 55, 56, 55, 57, 56, 48, 56, 49, 56, 50, 56, 51, 56, 52, 56, 53, 56, 54, 56, 55, 56, 56, 56, 57, 57, 48, 57, 49, 57, 50, 57, 51, 57, 52, 57, 53, 57, 54, 57, 55, 57, 56, 57, 57] : List UInt8) (IntKind.wrap .i64 (x0 * 2)) ((IntKind.wrap .i64 ((IntKind.wrap .i64 (x0 * 2)) + 2))))))]) (H2 := []) (by kernel_rfl) ?_
    refine RJ.end (by kernel_rfl) ?_
    refine PJ.next ?_
    refine K.ret (by kernel_rfl) ?_
    obtain rfl := Option.some.inj h5
    exact K.ret0 (.inr rfl) hFn hFH hFD (by kernel_rfl) (by kernel_rfl) (by kernel_rfl)

def strconv_FormatInt (x0 : Int) (x1 : Int) : Option (List UInt8) :=
  (bif (decide (x1 = 10)) then (Option.bind (Option.bind (bif (decide (0 ≤ x0)) then (some (decide (x0 < 100))) else (some false)) fun (s30 : Bool) => (bif s30 then (Option.bind (strconv_small x0) fun y41 => (some (.inr y41))) else (some (.inl ())))) (joinX fun (s22 : Unit) => (Option.bind (bif (decide (x0 < 0)) then (some ((IntKind.wrap .u64 (0 - (IntKind.wrap .u64 x0))))) else (some (IntKind.wrap .u64 x0))) fun (s48 : Int) => none))) else none)
theorem strconv_FormatInt_ok {x0 : Int} {x1 : Int} {r : List UInt8} (h : strconv_FormatInt x0 x1 = some r) : SC Tryd.prog 43 [.int .i64 x0, .int .i64 x1] [] (.str r) [] := by
  refine K.fn (fn := Tryd.f43) (by kernel_rfl) (by kernel_rfl) (by kernel_rfl) (by kernel_rfl) (by kernel_rfl) (fun F hFn hFH hFD => ?_)
  unfold strconv_FormatInt at h
  refine K.seq (by kernel_rfl) ?_
  refine K.region (by kernel_rfl) ?_
  refine RJ.seg 1 [0, 1, 4] (L2 := [(0, .int .i64 x0), (1, .int .i64 x1), (4, .str ([] : List UInt8))]) (H2 := []) (by kernel_rfl) ?_
  refine RJ.end (by kernel_rfl) ?_
  refine PJ.next ?_
  refine K.seq (by kernel_rfl) ?_
  refine K.seq (by kernel_rfl) ?_
  refine K.region (by kernel_rfl) ?_
  refine RJ.seg 2 [0, 1, 4, 11] (L2 := [(0, .int .i64 x0), (1, .int .i64 x1), (4, .str ([] : List UInt8)), (11, .bool (decide (x1 = 10)))]) (H2 := []) (by kernel_rfl) ?_
  refine RJ.end (by kernel_rfl) ?_
  refine PJ.next ?_
  refine J.caseB 11 (b := (decide (x1 = 10))) (by kernel_rfl) (fun hb1 => ?_) (fun hb1 => ?_)
  · have h2 := condT hb1 h
    refine K.condT (by kernel_rfl) ?_
    obtain ⟨y23, hy24, h25⟩ := bindS h2
    refine K.cutX (by kernel_rfl) (fun (s22 : Unit) => ([(0, .int .i64 x0), (1, .int .i64 x1), (4, .str ([] : List UInt8))], [])) y23 ?_ (fun s22 hs => ?_)
    · obtain ⟨s30, hy32, h34⟩ := bindS hy24
      refine K.cutN (by kernel_rfl) (fun (s30 : Bool) => ([(0, .int .i64 x0), (1, .int .i64 x1), (4, .str ([] : List UInt8)), (17, .bool s30)], [])) s30 ?_ ?_
      · refine K.region (by kernel_rfl) ?_
        refine RJ.seg 3 [0, 1, 4, 14] (L2 := [(0, .int .i64 x0), (1, .int .i64 x1), (4, .str ([] : List UInt8)), (14, .bool (decide (0 ≤ x0)))]) (H2 := []) (by kernel_rfl) ?_
        refine RJ.caseB 14 (b := (decide (0 ≤ x0))) (by kernel_rfl) (fun hb35 => ?_) (fun hb35 => ?_)
        · have h36 := condT hb35 hy32
          refine RJ.seg 3 [0, 1, 4, 17] (L2 := [(0, .int .i64 x0), (1, .int .i64 x1), (4, .str ([] : List UInt8)), (17, .bool (decide (x0 < 100)))]) (H2 := []) (by kernel_rfl) ?_
          refine RJ.end (by kernel_rfl) ?_
          obtain rfl := Option.some.inj h36
          exact PJ.cutN [0, 1, 4, 17] (by kernel_rfl) (by kernel_rfl)
        · have h37 := condF hb35 hy32
          refine RJ.seg 3 [0, 1, 4, 17] (L2 := [(0, .int .i64 x0), (1, .int .i64 x1), (4, .str ([] : List UInt8)), (17, .bool false)]) (H2 := []) (by kernel_rfl) ?_
          refine RJ.end (by kernel_rfl) ?_
          obtain rfl := Option.some.inj h37
          exact PJ.cutN [0, 1, 4, 17] (by kernel_rfl) (by kernel_rfl)
      · refine J.caseB 17 (b := s30) (by kernel_rfl) (fun hb38 => ?_) (fun hb38 => ?_)
        · have h39 := condT hb38 h34
          refine K.condT (by kernel_rfl) ?_
          refine K.seq (by kernel_rfl) ?_
          refine K.region (by kernel_rfl) ?_
          refine RJ.seg 1 [0, 1, 4, 18] (L2 := [(0, .int .i64 x0), (1, .int .i64 x1), (4, .str ([] : List UInt8)), (18, .int .i64 x0)]) (H2 := []) (by kernel_rfl) ?_
          obtain ⟨y41, hy42, h43⟩ := bindS h39
          refine RJ.call0 (d := (some 19)) (f := 44) (args := [.int .i64 x0]) (v := .str y41) (tr2 := []) (by kernel_rfl) (by kernel_rfl) (.cons (Le.refl _) .nil) (strconv_small_ok hy42) (by kernel_rfl) ?_
          refine RJ.seg 1 [0, 1, 4] (L2 := [(0, .int .i64 x0), (1, .int .i64 x1), (4, .str y41)]) (H2 := []) (by kernel_rfl) ?_
          refine RJ.end (by kernel_rfl) ?_
          refine PJ.next ?_
          refine K.ret (by kernel_rfl) ?_
          obtain rfl := Option.some.inj h43
          have h44 := joinX_inr h25
          refine PJ.cutXr (fun e => nomatch e) ?_
          refine PJ.passRet ?_
          obtain rfl := Option.some.inj h44
          exact K.ret0 (.inr rfl) hFn hFH hFD (by kernel_rfl) (by kernel_rfl) (by kernel_rfl)
        · have h40 := condF hb38 h34
          refine K.condF (by kernel_rfl) ?_
          refine K.skip (by kernel_rfl) ?_
          obtain rfl := Option.some.inj h40
          exact PJ.cutXl [0, 1, 4] (by kernel_rfl) (by kernel_rfl)
    · subst hs
      have h26 := joinX_inl h25
      refine K.seq (by kernel_rfl) ?_
      refine K.region (by kernel_rfl) ?_
      refine RJ.seg 1 [0, 1, 4, 5] (L2 := [(0, .int .i64 x0), (1, .int .i64 x1), (4, .str ([] : List UInt8)), (5, .ptr 0 0)]) (H2 := [.box [.int .u8 0, .int .u8 0, .int .u8 0, .int .u8 0, .int .u8 0, .int .u8 0, .int .u8 0, .int .u8 0, .int .u8 0, .int .u8 0, .int .u8 0, .int .u8 0, .int .u8 0, .int .u8 0, .int .u8 0, .int .u8 0, .int .u8 0, .int .u8 0, .int .u8 0, .int .u8 0, .int .u8 0, .int .u8 0, .int .u8 0, .int .u8 0]]) (by kernel_rfl) ?_
      refine RJ.end (by kernel_rfl) ?_
      refine PJ.next ?_
      refine K.seq (by kernel_rfl) ?_
      refine K.region (by kernel_rfl) ?_
      refine RJ.seg 3 [0, 1, 4, 5, 6] (L2 := [(0, .int .i64 x0), (1, .int .i64 x1), (4, .str ([] : List UInt8)), (5, .ptr 0 0), (6, .int .u64 (IntKind.wrap .u64 x0))]) (H2 := [.box [.int .u8 0, .int .u8 0, .int .u8 0, .int .u8 0, .int .u8 0, .int .u8 0, .int .u8 0, .int .u8 0, .int .u8 0, .int .u8 0, .int .u8 0, .int .u8 0, .int .u8 0, .int .u8 0, .int .u8 0, .int .u8 0, .int .u8 0, .int .u8 0, .int .u8 0, .int .u8 0, .int .u8 0, .int .u8 0, .int .u8 0, .int .u8 0]]) (by kernel_rfl) ?_
      refine RJ.end (by kernel_rfl) ?_
      refine PJ.next ?_
      obtain ⟨s48, hy50, h52⟩ := bindS h26
      refine K.cutN (by kernel_rfl) (fun (s48 : Int) => ([(0, .int .i64 x0), (1, .int .i64 x1), (4, .str ([] : List UInt8)), (5, .ptr 0 0), (6, .int .u64 s48)], [.box [.int .u8 0, .int .u8 0, .int .u8 0, .int .u8 0, .int .u8 0, .int .u8 0, .int .u8 0, .int .u8 0, .int .u8 0, .int .u8 0, .int .u8 0, .int .u8 0, .int .u8 0, .int .u8 0, .int .u8 0, .int .u8 0, .int .u8 0, .int .u8 0, .int .u8 0, .int .u8 0, .int .u8 0, .int .u8 0, .int .u8 0, .int .u8 0]])) s48 ?_ ?_
      · refine K.seq (by kernel_rfl) ?_
        refine K.region (by kernel_rfl) ?_
        refine RJ.seg 2 [0, 1, 4, 5, 6, 23] (L2 := [(0, .int .i64 x0), (1, .int .i64 x1), (4, .str ([] : List UInt8)), (5, .ptr 0 0), (6, .int .u64 (IntKind.wrap .u64 x0)), (23, .bool (decide (x0 < 0)))]) (H2 := [.box [.int .u8 0, .int .u8 0, .int .u8 0, .int .u8 0, .int .u8 0, .int .u8 0, .int .u8 0, .int .u8 0, .int .u8 0, .int .u8 0, .int .u8 0, .int .u8 0, .int .u8 0, .int .u8 0, .int .u8 0, .int .u8 0, .int .u8 0, .int .u8 0, .int .u8 0, .int .u8 0, .int .u8 0, .int .u8 0, .int .u8 0, .int .u8 0]]) (by kernel_rfl) ?_
        refine RJ.end (by kernel_rfl) ?_
        refine PJ.next ?_
        refine J.caseB 23 (b := (decide (x0 < 0))) (by kernel_rfl) (fun hb53 => ?_) (fun hb53 => ?_)
        · have h54 := condT hb53 hy50
          refine K.condT (by kernel_rfl) ?_
          refine K.region (by kernel_rfl) ?_
          refine RJ.seg 3 [0, 1, 4, 5, 6] (L2 := [(0, .int .i64 x0), (1, .int .i64 x1), (4, .str ([] : List UInt8)), (5, .ptr 0 0), (6, .int .u64 ((IntKind.wrap .u64 (0 - (IntKind.wrap .u64 x0)))))]) (H2 := [.box [.int .u8 0, .int .u8 0, .int .u8 0, .int .u8 0, .int .u8 0, .int .u8 0, .int .u8 0, .int .u8 0, .int .u8 0, .int .u8 0, .int .u8 0, .int .u8 0, .int .u8 0, .int .u8 0, .int .u8 0, .int .u8 0, .int .u8 0, .int .u8 0, .int .u8 0, .int .u8 0, .int .u8 0, .int .u8 0, .int .u8 0, .int .u8 0]]) (by kernel_rfl) ?_
          refine RJ.end (by kernel_rfl) ?_
          obtain rfl := Option.some.inj h54
          exact PJ.cutN [0, 1, 4, 5, 6] (by kernel_rfl) (by kernel_rfl)
        · have h55 := condF hb53 hy50
          refine K.condF (by kernel_rfl) ?_
          refine K.skip (by kernel_rfl) ?_
          obtain rfl := Option.some.inj h55
          exact PJ.cutN [0, 1, 4, 5, 6] (by kernel_rfl) (by kernel_rfl)
      · refine K.seq (by kernel_rfl) ?_
        refine K.region (by kernel_rfl) ?_
        refine RJ.seg 1 [0, 1, 4, 5, 6, 26] (L2 := [(0, .int .i64 x0), (1, .int .i64 x1), (4, .str ([] : List UInt8)), (5, .ptr 0 0), (6, .int .u64 s48), (26, .int .u64 s48)]) (H2 := [.box [.int .u8 0, .int .u8 0, .int .u8 0, .int .u8 0, .int .u8 0, .int .u8 0, .int .u8 0, .int .u8 0, .int .u8 0, .int .u8 0, .int .u8 0, .int .u8 0, .int .u8 0, .int .u8 0, .int .u8 0, .int .u8 0, .int .u8 0, .int .u8 0, .int .u8 0, .int .u8 0, .int .u8 0, .int .u8 0, .int .u8 0, .int .u8 0]]) (by kernel_rfl) ?_
        cases h52
  · have h3 := condF hb1 h
    refine K.condF (by kernel_rfl) ?_
    refine K.skip (by kernel_rfl) ?_
    refine PJ.next ?_
    refine K.seq (by kernel_rfl) ?_
    refine K.region (by kernel_rfl) ?_
    refine RJ.seg 5 [4, 46, 47, 49] (L2 := [(4, .str ([] : List UInt8)), (46, .int .u64 (IntKind.wrap .u64 x0)), (47, .int .i64 x1), (49, .bool (decide (x0 < 0)))]) (H2 := []) (by kernel_rfl) ?_
    cases h3

def strconv_Itoa_41 (x0 : Int) : Option (List UInt8) :=
  (Option.bind (strconv_FormatInt x0 10) fun y1 => (some y1))
theorem strconv_Itoa_41_ok {x0 : Int} {r : List UInt8} (h : strconv_Itoa_41 x0 = some r) : SC Tryd.prog 41 [.int .i64 x0] [] (.str r) [] := by
  refine K.fn (fn := Tryd.f41) (by kernel_rfl) (by kernel_rfl) (by kernel_rfl) (by kernel_rfl) (by kernel_rfl) (fun F hFn hFH hFD => ?_)
  unfold strconv_Itoa_41 at h
  refine K.seq (by kernel_rfl) ?_
  refine K.region (by kernel_rfl) ?_
  refine RJ.seg 1 [0, 2] (L2 := [(0, .int .i64 x0), (2, .str ([] : List UInt8))]) (H2 := []) (by kernel_rfl) ?_
  refine RJ.end (by kernel_rfl) ?_
  refine PJ.next ?_
  refine K.seq (by kernel_rfl) ?_
  refine K.region (by kernel_rfl) ?_
  refine RJ.seg 1 [2, 3] (L2 := [(2, .str ([] : List UInt8)), (3, .int .i64 x0)]) (H2 := []) (by kernel_rfl) ?_
  obtain ⟨y1, hy2, h3⟩ := bindS h
  refine RJ.call0 (d := (some 4)) (f := 43) (args := [.int .i64 x0, .int .i64 10]) (v := .str y1) (tr2 := []) (by kernel_rfl) (by kernel_rfl) (.cons (Le.refl _) (.cons (Le.refl _) .nil)) (strconv_FormatInt_ok hy2) (by kernel_rfl) ?_
  refine RJ.seg 1 [2] (L2 := [(2, .str y1)]) (H2 := []) (by kernel_rfl) ?_
  refine RJ.end (by kernel_rfl) ?_
  refine PJ.next ?_
  refine K.ret (by kernel_rfl) ?_
  obtain rfl := Option.some.inj h3
  exact K.ret0 (.inr rfl) hFn hFH hFD (by kernel_rfl) (by kernel_rfl) (by kernel_rfl)

def strconv_Itoa (x0 : Int) : Option (List UInt8) :=
  (Option.bind (strconv_Itoa_41 x0) fun y1 => (some y1))
theorem strconv_Itoa_ok {x0 : Int} {r : List UInt8} (h : strconv_Itoa x0 = some r) : SC Tryd.prog 28 [.int .i64 x0] [] (.str r) [] := by
  refine K.fn (fn := Tryd.f28) (by kernel_rfl) (by kernel_rfl) (by kernel_rfl) (by kernel_rfl) (by kernel_rfl) (fun F hFn hFH hFD => ?_)
  unfold strconv_Itoa at h
  refine K.seq (by kernel_rfl) ?_
  refine K.region (by kernel_rfl) ?_
  refine RJ.seg 1 [0, 2] (L2 := [(0, .int .i64 x0), (2, .str ([] : List UInt8))]) (H2 := []) (by kernel_rfl) ?_
  refine RJ.end (by kernel_rfl) ?_
  refine PJ.next ?_
  refine K.seq (by kernel_rfl) ?_
  refine K.region (by kernel_rfl) ?_
  refine RJ.seg 1 [2, 3] (L2 := [(2, .str ([] : List UInt8)), (3, .int .i64 x0)]) (H2 := []) (by kernel_rfl) ?_
  obtain ⟨y1, hy2, h3⟩ := bindS h
  refine RJ.call0 (d := (some 4)) (f := 41) (args := [.int .i64 x0]) (v := .str y1) (tr2 := []) (by kernel_rfl) (by kernel_rfl) (.cons (Le.refl _) .nil) (strconv_Itoa_41_ok hy2) (by kernel_rfl) ?_
  refine RJ.seg 1 [2] (L2 := [(2, .str y1)]) (H2 := []) (by kernel_rfl) ?_
  refine RJ.end (by kernel_rfl) ?_
  refine PJ.next ?_
  refine K.ret (by kernel_rfl) ?_
  obtain rfl := Option.some.inj h3
  exact K.ret0 (.inr rfl) hFn hFH hFD (by kernel_rfl) (by kernel_rfl) (by kernel_rfl)

def dec_Text (x0 : St23) : Option (List UInt8) :=
  (Option.bind (bif x0.Neg_ then (bif room ([45] : List Int).length then (some ([45] : List Int)) else none) else (some ([] : List Int))) fun (s5 : (List Int)) => (Option.bind (bif (decide ((x0.D_.length : Int) = 0)) then (bif room (s5.length + ([48] : List Int).length) then (some (s5 ++ ([48] : List Int))) else none) else (some s5)) fun (s18 : (List Int)) => (Option.bind (loopN (fun (s56 : Int × (List Int)) => (bif (decide (s56.1 < (x0.D_.length : Int))) then (bif inR s56.1 x0.D_.length then (bif room (s56.2.length + (([(IntKind.wrap .u8 (48 + (nth x0.D_ s56.1)))] : List Int)).length) then (some (.inl ((IntKind.wrap .i64 (s56.1 + 1)), (s56.2 ++ (([(IntKind.wrap .u8 (48 + (nth x0.D_ s56.1)))] : List Int)))))) else none) else none) else (some (.inr s56.2)))) big (0, s18)) fun (s51 : (List Int)) => (bif room ((bytesS s51).length + ([101] : List UInt8).length) then (Option.bind (strconv_Itoa x0.E_) fun y81 => (bif room (((bytesS s51) ++ ([101] : List UInt8)).length + y81.length) then (some (((bytesS s51) ++ ([101] : List UInt8)) ++ y81)) else none)) else none))))
theorem dec_Text_ok {x0 : St23} {r : List UInt8} (h : dec_Text x0 = some r) : SC Tryd.prog 15 [.agg [.bool x0.Neg_, lsv (encI .u8) 1 x0.D_, .int .i64 x0.E_]] [] (.str r) [] := by
  refine K.fn (fn := Tryd.f15) (by kernel_rfl) (by kernel_rfl) (by kernel_rfl) (by kernel_rfl) (by kernel_rfl) (fun F hFn hFH hFD => ?_)
  unfold dec_Text at h
  refine K.seq (by kernel_rfl) ?_
  refine K.region (by kernel_rfl) ?_
  refine RJ.seg 2 [1, 2] (L2 := [(1, .ptr 0 0), (2, .str ([] : List UInt8))]) (H2 := [.box [.bool x0.Neg_, lsv (encI .u8) 1 x0.D_, .int .i64 x0.E_]]) (by kernel_rfl) ?_
  refine RJ.end (by kernel_rfl) ?_
  refine PJ.next ?_
  refine K.seq (by kernel_rfl) ?_
  refine K.region (by kernel_rfl) ?_
  refine RJ.seg 1 [1, 2, 3] (L2 := [(1, .ptr 0 0), (2, .str ([] : List UInt8)), (3, .nl)]) (H2 := [.box [.bool x0.Neg_, lsv (encI .u8) 1 x0.D_, .int .i64 x0.E_]]) (by kernel_rfl) ?_
  refine RJ.end (by kernel_rfl) ?_
  refine PJ.next ?_
  obtain ⟨s5, hy7, h9⟩ := bindS h
  refine K.cutN (by kernel_rfl) (fun (s5 : (List Int)) => ([(1, .ptr 0 0), (2, .str ([] : List UInt8)), (3, .vc 1)], [.box [.bool x0.Neg_, lsv (encI .u8) 1 x0.D_, .int .i64 x0.E_], vecL (encI .u8) 1 5 s5])) s5 ?_ ?_
  · refine K.seq (by kernel_rfl) ?_
    refine K.region (by kernel_rfl) ?_
    refine RJ.seg 2 [1, 2, 3, 7] (L2 := [(1, .ptr 0 0), (2, .str ([] : List UInt8)), (3, .nl), (7, .bool x0.Neg_)]) (H2 := [.box [.bool x0.Neg_, lsv (encI .u8) 1 x0.D_, .int .i64 x0.E_]]) (by kernel_rfl) ?_
    refine RJ.end (by kernel_rfl) ?_
    refine PJ.next ?_
    refine J.caseB 7 (b := x0.Neg_) (by kernel_rfl) (fun hb10 => ?_) (fun hb10 => ?_)
    · have h11 := condT hb10 hy7
      refine K.condT (by kernel_rfl) ?_
      refine K.region (by kernel_rfl) ?_
      refine RJ.seg 2 [1, 2, 3, 8, 9] (L2 := [(1, .ptr 0 0), (2, .str ([] : List UInt8)), (3, .nl), (8, .nl), (9, .vc 1)]) (H2 := [.box [.bool x0.Neg_, lsv (encI .u8) 1 x0.D_, .int .i64 x0.E_], vecL (encI .u8) 1 5 ([45] : List Int)]) (by kernel_rfl) ?_
      obtain ⟨hm, h13⟩ := asrt h11
      refine RJ.rel (d := (some 10)) (ef := ⟨.vc 2, [1], [(2, .vec ([45] : List Int).length 1 5 (([45] : List Int).flatMap (encI .u8)))]⟩) (ef' := ⟨.vc 2, [1], [(2, .vec ([45] : List Int).length 1 5 (([45] : List Int).flatMap (encI .u8)))]⟩) (c := roomB ([45] : List Int).length) (tr2 := []) (H2 := [.box [.bool x0.Neg_, lsv (encI .u8) 1 x0.D_, .int .i64 x0.E_], vecL (encI .u8) 1 5 ([45] : List Int), vecL (encI .u8) 1 5 ([45] : List Int)]) (by kernel_rfl) (roomB_of_room hm) (fun hc => rfl) (by kernel_rfl) ?_
      refine RJ.seg 1 [1, 2, 3] (L2 := [(1, .ptr 0 0), (2, .str ([] : List UInt8)), (3, .vc 2)]) (H2 := [.box [.bool x0.Neg_, lsv (encI .u8) 1 x0.D_, .int .i64 x0.E_], vecL (encI .u8) 1 5 ([45] : List Int), vecL (encI .u8) 1 5 ([45] : List Int)]) (by kernel_rfl) ?_
      refine RJ.end (by kernel_rfl) ?_
      obtain rfl := Option.some.inj h13
      refine PJ.wk (Wk.sel (L2 := [(1, .ptr 0 0), (2, .str ([] : List UInt8)), (3, .vc 1)]) (H2 := [.box [.bool x0.Neg_, lsv (encI .u8) 1 x0.D_, .int .i64 x0.E_], vecL (encI .u8) 1 5 ([45] : List Int)]) 0 (by rw [hFH]; rfl) hFD [0, 2] (by kernel_rfl) (by kernel_rfl) (by decide) (by kernel_rfl) (by kernel_rfl) (by kernel_rfl) (by kernel_rfl)) ?_
      exact PJ.cutN [1, 2, 3] (by kernel_rfl) (by kernel_rfl)
    · have h12 := condF hb10 hy7
      refine K.condF (by kernel_rfl) ?_
      refine K.skip (by kernel_rfl) ?_
      obtain rfl := Option.some.inj h12
      refine PJ.wk (Wk.viv 3 1 5 (by kernel_rfl)) ?_
      exact PJ.cutN [1, 2, 3] (by kernel_rfl) (by kernel_rfl)
  · obtain ⟨s18, hy20, h22⟩ := bindS h9
    refine K.cutN (by kernel_rfl) (fun (s18 : (List Int)) => ([(1, .ptr 0 0), (2, .str ([] : List UInt8)), (3, .vc 1)], [.box [.bool x0.Neg_, lsv (encI .u8) 1 x0.D_, .int .i64 x0.E_], vecL (encI .u8) 1 5 s18])) s18 ?_ ?_
    · refine K.seq (by kernel_rfl) ?_
      refine K.region (by kernel_rfl) ?_
      refine RJ.seg 4 [1, 2, 3, 14] (L2 := [(1, .ptr 0 0), (2, .str ([] : List UInt8)), (3, .vc 1), (14, .bool ((decide ((x0.D_.length : Int) = 0))))]) (H2 := [.box [.bool x0.Neg_, lsv (encI .u8) 1 x0.D_, .int .i64 x0.E_], vecL (encI .u8) 1 5 s5]) (by kernel_rfl) ?_
      refine RJ.end (by kernel_rfl) ?_
      refine PJ.next ?_
      refine J.caseB 14 (b := (decide ((x0.D_.length : Int) = 0))) (by kernel_rfl) (fun hb23 => ?_) (fun hb23 => ?_)
      · have h24 := condT hb23 hy20
        refine K.condT (by kernel_rfl) ?_
        refine K.region (by kernel_rfl) ?_
        refine RJ.seg 2 [1, 2, 3, 15, 16] (L2 := [(1, .ptr 0 0), (2, .str ([] : List UInt8)), (3, .vc 1), (15, .vc 1), (16, .vc 2)]) (H2 := [.box [.bool x0.Neg_, lsv (encI .u8) 1 x0.D_, .int .i64 x0.E_], vecL (encI .u8) 1 5 s5, vecL (encI .u8) 1 5 ([48] : List Int)]) (by kernel_rfl) ?_
        obtain ⟨hm, h26⟩ := asrt h24
        refine RJ.rel (d := (some 17)) (ef := ⟨.vc 3, [1, 2], [(1, .gone), (3, .vec (s5.length + ([48] : List Int).length) 1 5 (s5.flatMap (encI .u8) ++ ([48] : List Int).flatMap (encI .u8)))]⟩) (ef' := ⟨.vc 3, [1, 2], [(1, .gone), (3, vecL (encI .u8) 1 5 (s5 ++ ([48] : List Int)))]⟩) (c := roomB (s5.length + ([48] : List Int).length)) (tr2 := []) (H2 := [.box [.bool x0.Neg_, lsv (encI .u8) 1 x0.D_, .int .i64 x0.E_], .gone, vecL (encI .u8) 1 5 ([48] : List Int), vecL (encI .u8) 1 5 (s5 ++ ([48] : List Int))]) (by kernel_rfl) (roomB_of_room hm) (fun hc => N.app) (by kernel_rfl) ?_
        refine RJ.seg 1 [1, 2, 3] (L2 := [(1, .ptr 0 0), (2, .str ([] : List UInt8)), (3, .vc 3)]) (H2 := [.box [.bool x0.Neg_, lsv (encI .u8) 1 x0.D_, .int .i64 x0.E_], .gone, vecL (encI .u8) 1 5 ([48] : List Int), vecL (encI .u8) 1 5 (s5 ++ ([48] : List Int))]) (by kernel_rfl) ?_
        refine RJ.end (by kernel_rfl) ?_
        obtain rfl := Option.some.inj h26
        refine PJ.wk (Wk.sel (L2 := [(1, .ptr 0 0), (2, .str ([] : List UInt8)), (3, .vc 1)]) (H2 := [.box [.bool x0.Neg_, lsv (encI .u8) 1 x0.D_, .int .i64 x0.E_], vecL (encI .u8) 1 5 (s5 ++ ([48] : List Int))]) 0 (by rw [hFH]; rfl) hFD [0, 3] (by kernel_rfl) (by kernel_rfl) (by decide) (by kernel_rfl) (by kernel_rfl) (by kernel_rfl) (by kernel_rfl)) ?_
        exact PJ.cutN [1, 2, 3] (by kernel_rfl) (by kernel_rfl)
      · have h25 := condF hb23 hy20
        refine K.condF (by kernel_rfl) ?_
        refine K.skip (by kernel_rfl) ?_
        obtain rfl := Option.some.inj h25
        exact PJ.cutN [1, 2, 3] (by kernel_rfl) (by kernel_rfl)
    · obtain ⟨s51, hy53, h55⟩ := bindS h22
      refine K.cutN (by kernel_rfl) (fun (s51 : (List Int)) => ([(1, .ptr 0 0), (2, .str ([] : List UInt8)), (3, .vc 1)], [.box [.bool x0.Neg_, lsv (encI .u8) 1 x0.D_, .int .i64 x0.E_], vecL (encI .u8) 1 5 s51])) s51 ?_ ?_
      · refine K.seq (by kernel_rfl) ?_
        refine K.region (by kernel_rfl) ?_
        refine RJ.seg 4 [1, 2, 3, 19, 20, 21] (L2 := [(1, .ptr 0 0), (2, .str ([] : List UInt8)), (3, .vc 1), (19, lsv (encI .u8) 1 x0.D_), (20, .int .i64 (x0.D_.length : Int)), (21, .int .i64 0)]) (H2 := [.box [.bool x0.Neg_, lsv (encI .u8) 1 x0.D_, .int .i64 x0.E_], vecL (encI .u8) 1 5 s18]) (by kernel_rfl) ?_
        refine RJ.end (by kernel_rfl) ?_
        refine PJ.next ?_
        refine K.block 0 (by kernel_rfl) ?_
        refine K.loop (by kernel_rfl) (fun (s56 : Int × (List Int)) => ([(1, .ptr 0 0), (2, .str ([] : List UInt8)), (3, .vc 1), (19, lsv (encI .u8) 1 x0.D_), (20, .int .i64 (x0.D_.length : Int)), (21, .int .i64 s56.1)], [.box [.bool x0.Neg_, lsv (encI .u8) 1 x0.D_, .int .i64 x0.E_], vecL (encI .u8) 1 5 s56.2])) hy53 [1, 2, 3, 19, 20, 21] (by kernel_rfl) (by kernel_rfl) (fun s56 x72 hs71 => ?_)
        refine K.seq (by kernel_rfl) ?_
        refine K.region (by kernel_rfl) ?_
        refine RJ.seg 1 [1, 2, 3, 19, 20, 21, 22] (L2 := [(1, .ptr 0 0), (2, .str ([] : List UInt8)), (3, .vc 1), (19, lsv (encI .u8) 1 x0.D_), (20, .int .i64 (x0.D_.length : Int)), (21, .int .i64 s56.1), (22, .bool ((decide (s56.1 < (x0.D_.length : Int)))))]) (H2 := [.box [.bool x0.Neg_, lsv (encI .u8) 1 x0.D_, .int .i64 x0.E_], vecL (encI .u8) 1 5 s56.2]) (by kernel_rfl) ?_
        refine RJ.end (by kernel_rfl) ?_
        refine PJ.next ?_
        refine K.seq (by kernel_rfl) ?_
        refine J.caseB 22 (b := (decide (s56.1 < (x0.D_.length : Int)))) (by kernel_rfl) (fun hb73 => ?_) (fun hb73 => ?_)
        · have h74 := condT hb73 hs71
          refine K.condT (by kernel_rfl) ?_
          refine K.skip (by kernel_rfl) ?_
          refine PJ.next ?_
          refine K.seq (by kernel_rfl) ?_
          refine K.block 1 (by kernel_rfl) ?_
          refine K.seq (by kernel_rfl) ?_
          refine K.region (by kernel_rfl) ?_
          obtain ⟨hm, h76⟩ := asrt h74
          refine RJ.rel (d := (some 23)) (ef := ⟨.ep (((x0.D_.flatMap (encI .u8)).drop ((s56.1 : Int).toNat * 1)).take 1), [], []⟩) (ef' := ⟨.ep ((encI .u8) (nth x0.D_ s56.1)), [], []⟩) (c := inR s56.1 x0.D_.length) (tr2 := []) (H2 := [.box [.bool x0.Neg_, lsv (encI .u8) 1 x0.D_, .int .i64 x0.E_], vecL (encI .u8) 1 5 s56.2]) (by kernel_rfl) hm (fun hc => N.idx (encI_len .u8) hc) (by kernel_rfl) ?_
          refine RJ.seg 2 [1, 2, 3, 5, 19, 20, 21] (L2 := [(1, .ptr 0 0), (2, .str ([] : List UInt8)), (3, .vc 1), (5, .int .u8 (nth x0.D_ s56.1)), (19, lsv (encI .u8) 1 x0.D_), (20, .int .i64 (x0.D_.length : Int)), (21, .int .i64 s56.1)]) (H2 := [.box [.bool x0.Neg_, lsv (encI .u8) 1 x0.D_, .int .i64 x0.E_], vecL (encI .u8) 1 5 s56.2]) (by kernel_rfl) ?_
          refine RJ.end (by kernel_rfl) ?_
          refine PJ.next ?_
          refine K.region (by kernel_rfl) ?_
          refine RJ.seg 4 [1, 2, 3, 19, 20, 21, 25, 28] (L2 := [(1, .ptr 0 0), (2, .str ([] : List UInt8)), (3, .vc 1), (19, lsv (encI .u8) 1 x0.D_), (20, .int .i64 (x0.D_.length : Int)), (21, .int .i64 s56.1), (25, .vc 1), (28, .vc 2)]) (H2 := [.box [.bool x0.Neg_, lsv (encI .u8) 1 x0.D_, .int .i64 x0.E_], vecL (encI .u8) 1 5 s56.2, vecL (encI .u8) 1 5 (([(IntKind.wrap .u8 (48 + (nth x0.D_ s56.1)))] : List Int))]) (by kernel_rfl) ?_
          obtain ⟨hm, h77⟩ := asrt h76
          refine RJ.rel (d := (some 29)) (ef := ⟨.vc 3, [1, 2], [(1, .gone), (3, .vec (s56.2.length + (([(IntKind.wrap .u8 (48 + (nth x0.D_ s56.1)))] : List Int)).length) 1 5 (s56.2.flatMap (encI .u8) ++ (([(IntKind.wrap .u8 (48 + (nth x0.D_ s56.1)))] : List Int)).flatMap (encI .u8)))]⟩) (ef' := ⟨.vc 3, [1, 2], [(1, .gone), (3, vecL (encI .u8) 1 5 (s56.2 ++ (([(IntKind.wrap .u8 (48 + (nth x0.D_ s56.1)))] : List Int))))]⟩) (c := roomB (s56.2.length + (([(IntKind.wrap .u8 (48 + (nth x0.D_ s56.1)))] : List Int)).length)) (tr2 := []) (H2 := [.box [.bool x0.Neg_, lsv (encI .u8) 1 x0.D_, .int .i64 x0.E_], .gone, vecL (encI .u8) 1 5 (([(IntKind.wrap .u8 (48 + (nth x0.D_ s56.1)))] : List Int)), vecL (encI .u8) 1 5 ((s56.2 ++ (([(IntKind.wrap .u8 (48 + (nth x0.D_ s56.1)))] : List Int))))]) (by kernel_rfl) (roomB_of_room hm) (fun hc => N.app) (by kernel_rfl) ?_
          refine RJ.seg 1 [1, 2, 3, 19, 20, 21] (L2 := [(1, .ptr 0 0), (2, .str ([] : List UInt8)), (3, .vc 3), (19, lsv (encI .u8) 1 x0.D_), (20, .int .i64 (x0.D_.length : Int)), (21, .int .i64 s56.1)]) (H2 := [.box [.bool x0.Neg_, lsv (encI .u8) 1 x0.D_, .int .i64 x0.E_], .gone, vecL (encI .u8) 1 5 (([(IntKind.wrap .u8 (48 + (nth x0.D_ s56.1)))] : List Int)), vecL (encI .u8) 1 5 ((s56.2 ++ (([(IntKind.wrap .u8 (48 + (nth x0.D_ s56.1)))] : List Int))))]) (by kernel_rfl) ?_
          refine RJ.end (by kernel_rfl) ?_
          refine PJ.blockNormal ?_
          refine PJ.next ?_
          refine K.region (by kernel_rfl) ?_
          refine RJ.seg 2 [1, 2, 3, 19, 20, 21] (L2 := [(1, .ptr 0 0), (2, .str ([] : List UInt8)), (3, .vc 3), (19, lsv (encI .u8) 1 x0.D_), (20, .int .i64 (x0.D_.length : Int)), (21, .int .i64 (IntKind.wrap .i64 (s56.1 + 1)))]) (H2 := [.box [.bool x0.Neg_, lsv (encI .u8) 1 x0.D_, .int .i64 x0.E_], .gone, vecL (encI .u8) 1 5 (([(IntKind.wrap .u8 (48 + (nth x0.D_ s56.1)))] : List Int)), vecL (encI .u8) 1 5 ((s56.2 ++ (([(IntKind.wrap .u8 (48 + (nth x0.D_ s56.1)))] : List Int))))]) (by kernel_rfl) ?_
          refine RJ.end (by kernel_rfl) ?_
          obtain rfl := Option.some.inj h77
          refine PJ.wk (Wk.sel (L2 := [(1, .ptr 0 0), (2, .str ([] : List UInt8)), (3, .vc 1), (19, lsv (encI .u8) 1 x0.D_), (20, .int .i64 (x0.D_.length : Int)), (21, .int .i64 (IntKind.wrap .i64 (s56.1 + 1)))]) (H2 := [.box [.bool x0.Neg_, lsv (encI .u8) 1 x0.D_, .int .i64 x0.E_], vecL (encI .u8) 1 5 ((s56.2 ++ (([(IntKind.wrap .u8 (48 + (nth x0.D_ s56.1)))] : List Int))))]) 0 (by rw [hFH]; rfl) hFD [0, 3] (by kernel_rfl) (by kernel_rfl) (by decide) (by kernel_rfl) (by kernel_rfl) (by kernel_rfl) (by kernel_rfl)) ?_
          exact PJ.loopNext [1, 2, 3, 19, 20, 21] (by kernel_rfl) (by kernel_rfl)
        · have h75 := condF hb73 hs71
          refine K.condF (by kernel_rfl) ?_
          refine K.exit 0 (by kernel_rfl) ?_
          refine PJ.passExit ?_
          obtain rfl := Option.some.inj h75
          refine PJ.loopOut (fun e => nomatch e) (fun he79 => ?_)
          have h78 := congrArg some he79
          refine PJ.blockOut ?_
          obtain rfl := Option.some.inj h78
          exact PJ.cutN [1, 2, 3] (by kernel_rfl) (by kernel_rfl)
      · refine K.seq (by kernel_rfl) ?_
        refine J.keep [1, 2, 3] (L2 := [(1, .ptr 0 0), (2, .str ([] : List UInt8)), (3, .vc 1)]) (by kernel_rfl) ?_
        refine K.draw (by kernel_rfl) (by kernel_rfl) (by kernel_rfl) (H2 := [.box [.bool x0.Neg_, lsv (encI .u8) 1 x0.D_, .int .i64 x0.E_], vecL (encI .u8) 1 5 s51, .res]) (by kernel_rfl) (n := 2) (by kernel_rfl) ?_
        refine RJ.segD 1 (tr2 := [([], [])]) (L2 := [(31, .vc 1), (1, .ptr 0 0), (2, .str ([] : List UInt8)), (3, .vc 1)]) (H2 := [.box [.bool x0.Neg_, lsv (encI .u8) 1 x0.D_, .int .i64 x0.E_], vecL (encI .u8) 1 5 s51, .res]) (by kernel_rfl) ?_
        refine RJ.rel (d := (some 32)) (ef := ⟨.str ((s51.flatMap (encI .u8)).map Go.Sy.byteOf), [1], []⟩) (ef' := ⟨.str (bytesS s51), [1], []⟩) (c := (s51.flatMap (encI .u8)).all isByte) (tr2 := [([], []), ([2, 3], [])]) (H2 := [.box [.bool x0.Neg_, lsv (encI .u8) 1 x0.D_, .int .i64 x0.E_], vecL (encI .u8) 1 5 s51, .res]) (by kernel_rfl) (allByte s51) (fun hc => N.toStr) (by kernel_rfl) ?_
        obtain ⟨hm, h80⟩ := asrt h55
        refine RJ.rel (d := (some 33)) (ef := ⟨.str ((bytesS s51) ++ ([101] : List UInt8)), [], []⟩) (ef' := ⟨.str ((bytesS s51) ++ ([101] : List UInt8)), [], []⟩) (c := room ((bytesS s51).length + ([101] : List UInt8).length)) (tr2 := [([], []), ([2, 3], []), ([], [])]) (H2 := [.box [.bool x0.Neg_, lsv (encI .u8) 1 x0.D_, .int .i64 x0.E_], vecL (encI .u8) 1 5 s51, .res]) (by kernel_rfl) hm (fun hc => rfl) (by kernel_rfl) ?_
        refine RJ.segD 2 (tr2 := [([], []), ([2, 3], []), ([], []), ([], []), ([0, 1], [])]) (L2 := [(35, .int .i64 x0.E_), (34, .ptr 0 2), (33, .str ((bytesS s51) ++ ([101] : List UInt8))), (32, .str (bytesS s51)), (31, .vc 1), (1, .ptr 0 0), (2, .str ([] : List UInt8)), (3, .vc 1)]) (H2 := [.box [.bool x0.Neg_, lsv (encI .u8) 1 x0.D_, .int .i64 x0.E_], vecL (encI .u8) 1 5 s51, .res]) (by kernel_rfl) ?_
        obtain ⟨y81, hy82, h83⟩ := bindS h80
        refine RJ.call0 (d := (some 36)) (f := 28) (args := [.int .i64 x0.E_]) (v := .str y81) (tr2 := [([], []), ([2, 3], []), ([], []), ([], []), ([0, 1], []), ([], [4, 5])]) (by kernel_rfl) (by kernel_rfl) (.cons (Le.refl _) .nil) (strconv_Itoa_ok hy82) (by kernel_rfl) ?_
        obtain ⟨hm, h84⟩ := asrt h83
        refine RJ.rel (d := (some 37)) (ef := ⟨.str (((bytesS s51) ++ ([101] : List UInt8)) ++ y81), [], []⟩) (ef' := ⟨.str (((bytesS s51) ++ ([101] : List UInt8)) ++ y81), [], []⟩) (c := room (((bytesS s51) ++ ([101] : List UInt8)).length + y81.length)) (tr2 := [([], []), ([2, 3], []), ([], []), ([], []), ([0, 1], []), ([], [4, 5]), ([], [])]) (H2 := [.box [.bool x0.Neg_, lsv (encI .u8) 1 x0.D_, .int .i64 x0.E_], vecL (encI .u8) 1 5 s51, .res]) (by kernel_rfl) hm (fun hc => rfl) (by kernel_rfl) ?_
        refine RJ.segD 1 (tr2 := [([], []), ([2, 3], []), ([], []), ([], []), ([0, 1], []), ([], [4, 5]), ([], []), ([], [])]) (L2 := [(2, .str ((((bytesS s51) ++ ([101] : List UInt8)) ++ y81))), (37, .str ((((bytesS s51) ++ ([101] : List UInt8)) ++ y81))), (36, .str y81), (35, .int .i64 x0.E_), (34, .ptr 0 2), (33, .str ((bytesS s51) ++ ([101] : List UInt8))), (32, .str (bytesS s51)), (31, .vc 1), (1, .ptr 0 0), (2, .str ([] : List UInt8)), (3, .vc 1)]) (H2 := [.box [.bool x0.Neg_, lsv (encI .u8) 1 x0.D_, .int .i64 x0.E_], vecL (encI .u8) 1 5 s51, .res]) (by kernel_rfl) ?_
        refine RJ.end (by kernel_rfl) ?_
        refine PJ.next ?_
        refine K.ret (by kernel_rfl) ?_
        obtain rfl := Option.some.inj h84
        exact K.ret0 (.inr rfl) hFn hFH hFD (by kernel_rfl) (by kernel_rfl) (by kernel_rfl)

structure St59 where
  Dec_ : St23
  deriving Inhabited, DecidableEq
def encSt59 (x : St59) : List SV := [.bool x.Dec_.Neg_, lsv (encI .u8) 1 x.Dec_.D_, .int .i64 x.Dec_.E_]
theorem encSt59_len (x : St59) : (encSt59 x).length = 3 := rfl

def dec_work__mag (x0 : St59) : Option (Int) :=
  (bif (decide ((x0.Dec_.D_.length : Int) = 0)) then (some 0) else (some (IntKind.wrap .i64 (((IntKind.wrap .i64 (x0.Dec_.E_ + (x0.Dec_.D_.length : Int)))) - 1))))
theorem dec_work__mag_ok {x0 : St59} {r : Int} (h : dec_work__mag x0 = some r) : SC Tryd.prog 34 [.agg [.bool x0.Dec_.Neg_, lsv (encI .u8) 1 x0.Dec_.D_, .int .i64 x0.Dec_.E_]] [] (.int .i64 r) [] := by
  refine K.fn (fn := Tryd.f34) (by kernel_rfl) (by kernel_rfl) (by kernel_rfl) (by kernel_rfl) (by kernel_rfl) (fun F hFn hFH hFD => ?_)
  unfold dec_work__mag at h
  refine K.seq (by kernel_rfl) ?_
  refine K.region (by kernel_rfl) ?_
  refine RJ.seg 2 [1, 2] (L2 := [(1, .ptr 0 0), (2, .int .i64 0)]) (H2 := [.box [.bool x0.Dec_.Neg_, lsv (encI .u8) 1 x0.Dec_.D_, .int .i64 x0.Dec_.E_]]) (by kernel_rfl) ?_
  refine RJ.end (by kernel_rfl) ?_
  refine PJ.next ?_
  refine K.seq (by kernel_rfl) ?_
  refine K.seq (by kernel_rfl) ?_
  refine K.region (by kernel_rfl) ?_
  refine RJ.seg 5 [1, 2, 7] (L2 := [(1, .ptr 0 0), (2, .int .i64 0), (7, .bool ((decide ((x0.Dec_.D_.length : Int) = 0))))]) (H2 := [.box [.bool x0.Dec_.Neg_, lsv (encI .u8) 1 x0.Dec_.D_, .int .i64 x0.Dec_.E_]]) (by kernel_rfl) ?_
  refine RJ.end (by kernel_rfl) ?_
  refine PJ.next ?_
  refine J.caseB 7 (b := (decide ((x0.Dec_.D_.length : Int) = 0))) (by kernel_rfl) (fun hb1 => ?_) (fun hb1 => ?_)
  · have h2 := condT hb1 h
    refine K.condT (by kernel_rfl) ?_
    refine K.seq (by kernel_rfl) ?_
    refine K.region (by kernel_rfl) ?_
    refine RJ.seg 1 [1, 2] (L2 := [(1, .ptr 0 0), (2, .int .i64 0)]) (H2 := [.box [.bool x0.Dec_.Neg_, lsv (encI .u8) 1 x0.Dec_.D_, .int .i64 x0.Dec_.E_]]) (by kernel_rfl) ?_
    refine RJ.end (by kernel_rfl) ?_
    refine PJ.next ?_
    refine K.ret (by kernel_rfl) ?_
    refine PJ.passRet ?_
    obtain rfl := Option.some.inj h2
    exact K.ret0 (.inr rfl) hFn hFH hFD (by kernel_rfl) (by kernel_rfl) (by kernel_rfl)
  · have h3 := condF hb1 h
    refine K.condF (by kernel_rfl) ?_
    refine K.skip (by kernel_rfl) ?_
    refine PJ.next ?_
    refine K.seq (by kernel_rfl) ?_
    refine K.region (by kernel_rfl) ?_
    refine RJ.seg 10 [2] (L2 := [(2, .int .i64 ((IntKind.wrap .i64 (((IntKind.wrap .i64 (x0.Dec_.E_ + (x0.Dec_.D_.length : Int)))) - 1))))]) (H2 := [.box [.bool x0.Dec_.Neg_, lsv (encI .u8) 1 x0.Dec_.D_, .int .i64 x0.Dec_.E_]]) (by kernel_rfl) ?_
    refine RJ.end (by kernel_rfl) ?_
    refine PJ.next ?_
    refine K.ret (by kernel_rfl) ?_
    obtain rfl := Option.some.inj h3
    exact K.ret0 (.inr rfl) hFn hFH hFD (by kernel_rfl) (by kernel_rfl) (by kernel_rfl)

def dec_Mag (x0 : St23) : Option (Int) :=
  (Option.bind (dec_work__mag (⟨x0⟩ : St59)) fun y1 => (some y1))
theorem dec_Mag_ok {x0 : St23} {r : Int} (h : dec_Mag x0 = some r) : SC Tryd.prog 20 [.agg [.bool x0.Neg_, lsv (encI .u8) 1 x0.D_, .int .i64 x0.E_]] [] (.int .i64 r) [] := by
  refine K.fn (fn := Tryd.f20) (by kernel_rfl) (by kernel_rfl) (by kernel_rfl) (by kernel_rfl) (by kernel_rfl) (fun F hFn hFH hFD => ?_)
  unfold dec_Mag at h
  refine K.seq (by kernel_rfl) ?_
  refine K.region (by kernel_rfl) ?_
  refine RJ.seg 2 [1, 2] (L2 := [(1, .ptr 0 0), (2, .int .i64 0)]) (H2 := [.box [.bool x0.Neg_, lsv (encI .u8) 1 x0.D_, .int .i64 x0.E_]]) (by kernel_rfl) ?_
  refine RJ.end (by kernel_rfl) ?_
  refine PJ.next ?_
  refine K.seq (by kernel_rfl) ?_
  refine K.region (by kernel_rfl) ?_
  refine RJ.seg 2 [2, 4] (L2 := [(2, .int .i64 0), (4, .agg [.bool x0.Neg_, lsv (encI .u8) 1 x0.D_, .int .i64 x0.E_])]) (H2 := [.box [.bool x0.Neg_, lsv (encI .u8) 1 x0.D_, .int .i64 x0.E_]]) (by kernel_rfl) ?_
  obtain ⟨y1, hy2, h3⟩ := bindS h
  refine RJ.call0 (d := (some 5)) (f := 34) (args := [.agg [.bool x0.Neg_, lsv (encI .u8) 1 x0.D_, .int .i64 x0.E_]]) (v := .int .i64 y1) (tr2 := []) (by kernel_rfl) (by kernel_rfl) (.cons (Le.refl _) .nil) (dec_work__mag_ok hy2) (by kernel_rfl) ?_
  refine RJ.seg 1 [2] (L2 := [(2, .int .i64 y1)]) (H2 := [.box [.bool x0.Neg_, lsv (encI .u8) 1 x0.D_, .int .i64 x0.E_]]) (by kernel_rfl) ?_
  refine RJ.end (by kernel_rfl) ?_
  refine PJ.next ?_
  refine K.ret (by kernel_rfl) ?_
  obtain rfl := Option.some.inj h3
  exact K.ret0 (.inr rfl) hFn hFH hFD (by kernel_rfl) (by kernel_rfl) (by kernel_rfl)

def slices_Equal (x0 : List Int) (x1 : List Int) : Option (Bool) :=
  (bif (decide (¬ (x0.length : Int) = (x1.length : Int))) then (some false) else (Option.bind (loopN (fun (s51 : Int) => (bif (decide (s51 < (x0.length : Int))) then (bif inR s51 x0.length then (bif inR s51 x1.length then (bif (decide (¬ (nth x0 s51) = (nth x1 s51))) then (some (.inr (.inr false))) else (some (.inl (IntKind.wrap .i64 (s51 + 1))))) else none) else none) else (some (.inr (.inl ()))))) big 0) (joinX fun (s46 : Unit) => (some true))))
theorem slices_Equal_ok {x0 : List Int} {x1 : List Int} {r : Bool} (h : slices_Equal x0 x1 = some r) : SC Tryd.prog 37 [lsv (encI .u8) 1 x0, lsv (encI .u8) 1 x1] [] (.bool r) [] := by
  refine K.fn (fn := Tryd.f37) (by kernel_rfl) (by kernel_rfl) (by kernel_rfl) (by kernel_rfl) (by kernel_rfl) (fun F hFn hFH hFD => ?_)
  unfold slices_Equal at h
  refine K.seq (by kernel_rfl) ?_
  refine K.region (by kernel_rfl) ?_
  refine RJ.seg 1 [0, 1, 4] (L2 := [(0, lsv (encI .u8) 1 x0), (1, lsv (encI .u8) 1 x1), (4, .bool false)]) (H2 := []) (by kernel_rfl) ?_
  refine RJ.end (by kernel_rfl) ?_
  refine PJ.next ?_
  refine K.seq (by kernel_rfl) ?_
  refine K.seq (by kernel_rfl) ?_
  refine K.region (by kernel_rfl) ?_
  refine RJ.seg 5 [0, 1, 4, 10] (L2 := [(0, lsv (encI .u8) 1 x0), (1, lsv (encI .u8) 1 x1), (4, .bool false), (10, .bool ((decide (¬ (x0.length : Int) = (x1.length : Int)))))]) (H2 := []) (by kernel_rfl) ?_
  refine RJ.end (by kernel_rfl) ?_
  refine PJ.next ?_
  refine J.caseB 10 (b := (decide (¬ (x0.length : Int) = (x1.length : Int)))) (by kernel_rfl) (fun hb1 => ?_) (fun hb1 => ?_)
  · have h2 := condT hb1 h
    refine K.condT (by kernel_rfl) ?_
    refine K.seq (by kernel_rfl) ?_
    refine K.region (by kernel_rfl) ?_
    refine RJ.seg 1 [0, 1, 4] (L2 := [(0, lsv (encI .u8) 1 x0), (1, lsv (encI .u8) 1 x1), (4, .bool false)]) (H2 := []) (by kernel_rfl) ?_
    refine RJ.end (by kernel_rfl) ?_
    refine PJ.next ?_
    refine K.ret (by kernel_rfl) ?_
    refine PJ.passRet ?_
    obtain rfl := Option.some.inj h2
    exact K.ret0 (.inr rfl) hFn hFH hFD (by kernel_rfl) (by kernel_rfl) (by kernel_rfl)
  · have h3 := condF hb1 h
    refine K.condF (by kernel_rfl) ?_
    refine K.skip (by kernel_rfl) ?_
    refine PJ.next ?_
    obtain ⟨y47, hy48, h49⟩ := bindS h3
    refine K.cutX (by kernel_rfl) (fun (s46 : Unit) => ([(4, .bool false)], [])) y47 ?_ (fun s46 hs => ?_)
    · refine K.seq (by kernel_rfl) ?_
      refine K.region (by kernel_rfl) ?_
      refine RJ.seg 3 [0, 1, 4, 12, 13] (L2 := [(0, lsv (encI .u8) 1 x0), (1, lsv (encI .u8) 1 x1), (4, .bool false), (12, .int .i64 (x0.length : Int)), (13, .int .i64 0)]) (H2 := []) (by kernel_rfl) ?_
      refine RJ.end (by kernel_rfl) ?_
      refine PJ.next ?_
      refine K.block 0 (by kernel_rfl) ?_
      refine K.loop (by kernel_rfl) (fun (s51 : Int) => ([(0, lsv (encI .u8) 1 x0), (1, lsv (encI .u8) 1 x1), (4, .bool false), (12, .int .i64 (x0.length : Int)), (13, .int .i64 s51)], [])) hy48 [0, 1, 4, 12, 13] (by kernel_rfl) (by kernel_rfl) (fun s51 x79 hs78 => ?_)
      refine K.seq (by kernel_rfl) ?_
      refine K.region (by kernel_rfl) ?_
      refine RJ.seg 1 [0, 1, 4, 12, 13, 14] (L2 := [(0, lsv (encI .u8) 1 x0), (1, lsv (encI .u8) 1 x1), (4, .bool false), (12, .int .i64 (x0.length : Int)), (13, .int .i64 s51), (14, .bool ((decide (s51 < (x0.length : Int)))))]) (H2 := []) (by kernel_rfl) ?_
      refine RJ.end (by kernel_rfl) ?_
      refine PJ.next ?_
      refine K.seq (by kernel_rfl) ?_
      refine J.caseB 14 (b := (decide (s51 < (x0.length : Int)))) (by kernel_rfl) (fun hb80 => ?_) (fun hb80 => ?_)
      · have h81 := condT hb80 hs78
        refine K.condT (by kernel_rfl) ?_
        refine K.skip (by kernel_rfl) ?_
        refine PJ.next ?_
        refine K.seq (by kernel_rfl) ?_
        refine K.block 1 (by kernel_rfl) ?_
        refine K.seq (by kernel_rfl) ?_
        refine K.region (by kernel_rfl) ?_
        refine RJ.seg 2 [0, 1, 4, 5, 12, 13] (L2 := [(0, lsv (encI .u8) 1 x0), (1, lsv (encI .u8) 1 x1), (4, .bool false), (5, .int .i64 s51), (12, .int .i64 (x0.length : Int)), (13, .int .i64 s51)]) (H2 := []) (by kernel_rfl) ?_
        refine RJ.end (by kernel_rfl) ?_
        refine PJ.next ?_
        refine K.seq (by kernel_rfl) ?_
        refine J.keep [0, 1, 4, 5, 12, 13] (L2 := [(0, lsv (encI .u8) 1 x0), (1, lsv (encI .u8) 1 x1), (4, .bool false), (5, .int .i64 s51), (12, .int .i64 (x0.length : Int)), (13, .int .i64 s51)]) (by kernel_rfl) ?_
        refine K.draw (by kernel_rfl) (by kernel_rfl) (by kernel_rfl) (H2 := []) (by kernel_rfl) (n := 0) (by kernel_rfl) ?_
        refine RJ.segD 2 (tr2 := [([], []), ([], [])]) (L2 := [(17, .int .i64 s51), (16, lsv (encI .u8) 1 x0), (0, lsv (encI .u8) 1 x0), (1, lsv (encI .u8) 1 x1), (4, .bool false), (5, .int .i64 s51), (12, .int .i64 (x0.length : Int)), (13, .int .i64 s51)]) (H2 := []) (by kernel_rfl) ?_
        obtain ⟨hm, h83⟩ := asrt h81
        refine RJ.rel (d := (some 18)) (ef := ⟨.ep (((x0.flatMap (encI .u8)).drop ((s51 : Int).toNat * 1)).take 1), [], []⟩) (ef' := ⟨.ep ((encI .u8) (nth x0 s51)), [], []⟩) (c := inR s51 x0.length) (tr2 := [([], []), ([], []), ([], [])]) (H2 := []) (by kernel_rfl) hm (fun hc => N.idx (encI_len .u8) hc) (by kernel_rfl) ?_
        refine RJ.segD 3 (tr2 := [([], []), ([], []), ([], []), ([], []), ([], []), ([], [])]) (L2 := [(21, .int .i64 s51), (20, lsv (encI .u8) 1 x1), (19, .int .u8 (nth x0 s51)), (18, .ep [.int .u8 (nth x0 s51)]), (17, .int .i64 s51), (16, lsv (encI .u8) 1 x0), (0, lsv (encI .u8) 1 x0), (1, lsv (encI .u8) 1 x1), (4, .bool false), (5, .int .i64 s51), (12, .int .i64 (x0.length : Int)), (13, .int .i64 s51)]) (H2 := []) (by kernel_rfl) ?_
        obtain ⟨hm, h84⟩ := asrt h83
        refine RJ.rel (d := (some 22)) (ef := ⟨.ep (((x1.flatMap (encI .u8)).drop ((s51 : Int).toNat * 1)).take 1), [], []⟩) (ef' := ⟨.ep ((encI .u8) (nth x1 s51)), [], []⟩) (c := inR s51 x1.length) (tr2 := [([], []), ([], []), ([], []), ([], []), ([], []), ([], []), ([], [])]) (H2 := []) (by kernel_rfl) hm (fun hc => N.idx (encI_len .u8) hc) (by kernel_rfl) ?_
        refine RJ.segD 2 (tr2 := [([], []), ([], []), ([], []), ([], []), ([], []), ([], []), ([], []), ([], []), ([], [])]) (L2 := [(24, .bool ((decide (¬ (nth x0 s51) = (nth x1 s51))))), (23, .int .u8 (nth x1 s51)), (22, .ep [.int .u8 (nth x1 s51)]), (21, .int .i64 s51), (20, lsv (encI .u8) 1 x1), (19, .int .u8 (nth x0 s51)), (18, .ep [.int .u8 (nth x0 s51)]), (17, .int .i64 s51), (16, lsv (encI .u8) 1 x0), (0, lsv (encI .u8) 1 x0), (1, lsv (encI .u8) 1 x1), (4, .bool false), (5, .int .i64 s51), (12, .int .i64 (x0.length : Int)), (13, .int .i64 s51)]) (H2 := []) (by kernel_rfl) ?_
        refine RJ.end (by kernel_rfl) ?_
        refine PJ.next ?_
        refine J.caseB 24 (b := (decide (¬ (nth x0 s51) = (nth x1 s51)))) (by kernel_rfl) (fun hb85 => ?_) (fun hb85 => ?_)
        · have h86 := condT hb85 h84
          refine K.condT (by kernel_rfl) ?_
          refine K.seq (by kernel_rfl) ?_
          refine K.region (by kernel_rfl) ?_
          refine RJ.seg 1 [0, 1, 4, 12, 13] (L2 := [(0, lsv (encI .u8) 1 x0), (1, lsv (encI .u8) 1 x1), (4, .bool false), (12, .int .i64 (x0.length : Int)), (13, .int .i64 s51)]) (H2 := []) (by kernel_rfl) ?_
          refine RJ.end (by kernel_rfl) ?_
          refine PJ.next ?_
          refine K.ret (by kernel_rfl) ?_
          refine PJ.blockRet ?_
          refine PJ.passRet ?_
          obtain rfl := Option.some.inj h86
          refine PJ.loopOut (fun e => nomatch e) (fun he90 => ?_)
          have h88 := congrArg some he90
          refine PJ.blockRet ?_
          obtain rfl := Option.some.inj h88
          have h89 := joinX_inr h49
          refine PJ.cutXr (fun e => nomatch e) ?_
          obtain rfl := Option.some.inj h89
          exact K.ret0 (.inr rfl) hFn hFH hFD (by kernel_rfl) (by kernel_rfl) (by kernel_rfl)
        · have h87 := condF hb85 h84
          refine K.condF (by kernel_rfl) ?_
          refine K.skip (by kernel_rfl) ?_
          refine PJ.blockNormal ?_
          refine PJ.next ?_
          refine K.region (by kernel_rfl) ?_
          refine RJ.seg 2 [0, 1, 4, 12, 13] (L2 := [(0, lsv (encI .u8) 1 x0), (1, lsv (encI .u8) 1 x1), (4, .bool false), (12, .int .i64 (x0.length : Int)), (13, .int .i64 (IntKind.wrap .i64 (s51 + 1)))]) (H2 := []) (by kernel_rfl) ?_
          refine RJ.end (by kernel_rfl) ?_
          obtain rfl := Option.some.inj h87
          exact PJ.loopNext [0, 1, 4, 12, 13] (by kernel_rfl) (by kernel_rfl)
      · have h82 := condF hb80 hs78
        refine K.condF (by kernel_rfl) ?_
        refine K.exit 0 (by kernel_rfl) ?_
        refine PJ.passExit ?_
        obtain rfl := Option.some.inj h82
        refine PJ.loopOut (fun e => nomatch e) (fun he92 => ?_)
        have h91 := congrArg some he92
        refine PJ.blockOut ?_
        obtain rfl := Option.some.inj h91
        exact PJ.cutXl [4] (by kernel_rfl) (by kernel_rfl)
    · subst hs
      have h50 := joinX_inl h49
      refine K.seq (by kernel_rfl) ?_
      refine K.region (by kernel_rfl) ?_
      refine RJ.seg 1 [4] (L2 := [(4, .bool true)]) (H2 := []) (by kernel_rfl) ?_
      refine RJ.end (by kernel_rfl) ?_
      refine PJ.next ?_
      refine K.ret (by kernel_rfl) ?_
      obtain rfl := Option.some.inj h50
      exact K.ret0 (.inr rfl) hFn hFH hFD (by kernel_rfl) (by kernel_rfl) (by kernel_rfl)

def dec_Same (x0 : St23) (x1 : St23) : Option (Bool) :=
  (Option.bind (bif (x0.Neg_ == x1.Neg_) then (bif (decide (x0.E_ = x1.E_)) then (Option.bind (slices_Equal x0.D_ x1.D_) fun y21 => (some y21)) else (some false)) else (some false)) fun (s10 : Bool) => (some s10))
theorem dec_Same_ok {x0 : St23} {x1 : St23} {r : Bool} (h : dec_Same x0 x1 = some r) : SC Tryd.prog 23 [.agg [.bool x0.Neg_, lsv (encI .u8) 1 x0.D_, .int .i64 x0.E_], .agg [.bool x1.Neg_, lsv (encI .u8) 1 x1.D_, .int .i64 x1.E_]] [] (.bool r) [] := by
  refine K.fn (fn := Tryd.f23) (by kernel_rfl) (by kernel_rfl) (by kernel_rfl) (by kernel_rfl) (by kernel_rfl) (fun F hFn hFH hFD => ?_)
  unfold dec_Same at h
  refine K.seq (by kernel_rfl) ?_
  refine K.region (by kernel_rfl) ?_
  refine RJ.seg 3 [2, 3, 4] (L2 := [(2, .ptr 0 0), (3, .ptr 1 0), (4, .bool false)]) (H2 := [.box [.bool x0.Neg_, lsv (encI .u8) 1 x0.D_, .int .i64 x0.E_], .box [.bool x1.Neg_, lsv (encI .u8) 1 x1.D_, .int .i64 x1.E_]]) (by kernel_rfl) ?_
  refine RJ.end (by kernel_rfl) ?_
  refine PJ.next ?_
  obtain ⟨s10, hy12, h14⟩ := bindS h
  refine K.cutN (by kernel_rfl) (fun (s10 : Bool) => ([(4, .bool s10)], [])) s10 ?_ ?_
  · refine K.region (by kernel_rfl) ?_
    refine RJ.seg 6 [2, 3, 4, 10] (L2 := [(2, .ptr 0 0), (3, .ptr 1 0), (4, .bool false), (10, .bool (x0.Neg_ == x1.Neg_))]) (H2 := [.box [.bool x0.Neg_, lsv (encI .u8) 1 x0.D_, .int .i64 x0.E_], .box [.bool x1.Neg_, lsv (encI .u8) 1 x1.D_, .int .i64 x1.E_]]) (by kernel_rfl) ?_
    refine RJ.caseB 10 (b := (x0.Neg_ == x1.Neg_)) (by kernel_rfl) (fun hb15 => ?_) (fun hb15 => ?_)
    · have h16 := condT hb15 hy12
      refine RJ.seg 7 [2, 3, 4, 17] (L2 := [(2, .ptr 0 0), (3, .ptr 1 0), (4, .bool false), (17, .bool (decide (x0.E_ = x1.E_)))]) (H2 := [.box [.bool x0.Neg_, lsv (encI .u8) 1 x0.D_, .int .i64 x0.E_], .box [.bool x1.Neg_, lsv (encI .u8) 1 x1.D_, .int .i64 x1.E_]]) (by kernel_rfl) ?_
      refine RJ.caseB 17 (b := (decide (x0.E_ = x1.E_))) (by kernel_rfl) (fun hb18 => ?_) (fun hb18 => ?_)
      · have h19 := condT hb18 h16
        refine RJ.seg 4 [4, 17, 19, 21] (L2 := [(4, .bool false), (17, .bool true), (19, lsv (encI .u8) 1 x0.D_), (21, lsv (encI .u8) 1 x1.D_)]) (H2 := [.box [.bool x0.Neg_, lsv (encI .u8) 1 x0.D_, .int .i64 x0.E_], .box [.bool x1.Neg_, lsv (encI .u8) 1 x1.D_, .int .i64 x1.E_]]) (by kernel_rfl) ?_
        obtain ⟨y21, hy22, h23⟩ := bindS h19
        refine RJ.call0 (d := (some 22)) (f := 37) (args := [lsv (encI .u8) 1 x0.D_, lsv (encI .u8) 1 x1.D_]) (v := .bool y21) (tr2 := []) (by kernel_rfl) (by kernel_rfl) (.cons (Le.refl _) (.cons (Le.refl _) .nil)) (slices_Equal_ok hy22) (by kernel_rfl) ?_
        refine RJ.seg 2 [4] (L2 := [(4, .bool y21)]) (H2 := [.box [.bool x0.Neg_, lsv (encI .u8) 1 x0.D_, .int .i64 x0.E_], .box [.bool x1.Neg_, lsv (encI .u8) 1 x1.D_, .int .i64 x1.E_]]) (by kernel_rfl) ?_
        refine RJ.end (by kernel_rfl) ?_
        obtain rfl := Option.some.inj h23
        refine PJ.wk (Wk.sel (L2 := [(4, .bool y21)]) (H2 := []) 0 (by rw [hFH]; rfl) hFD [] (by kernel_rfl) (by kernel_rfl) (by decide) (by kernel_rfl) (by kernel_rfl) (by kernel_rfl) (by kernel_rfl)) ?_
        exact PJ.cutN [4] (by kernel_rfl) (by kernel_rfl)
      · have h20 := condF hb18 h16
        refine RJ.seg 7 [4] (L2 := [(4, .bool false)]) (H2 := [.box [.bool x0.Neg_, lsv (encI .u8) 1 x0.D_, .int .i64 x0.E_], .box [.bool x1.Neg_, lsv (encI .u8) 1 x1.D_, .int .i64 x1.E_]]) (by kernel_rfl) ?_
        refine RJ.end (by kernel_rfl) ?_
        obtain rfl := Option.some.inj h20
        refine PJ.wk (Wk.sel (L2 := [(4, .bool false)]) (H2 := []) 0 (by rw [hFH]; rfl) hFD [] (by kernel_rfl) (by kernel_rfl) (by decide) (by kernel_rfl) (by kernel_rfl) (by kernel_rfl) (by kernel_rfl)) ?_
        exact PJ.cutN [4] (by kernel_rfl) (by kernel_rfl)
    · have h17 := condF hb15 hy12
      refine RJ.seg 14 [4] (L2 := [(4, .bool false)]) (H2 := [.box [.bool x0.Neg_, lsv (encI .u8) 1 x0.D_, .int .i64 x0.E_], .box [.bool x1.Neg_, lsv (encI .u8) 1 x1.D_, .int .i64 x1.E_]]) (by kernel_rfl) ?_
      refine RJ.end (by kernel_rfl) ?_
      obtain rfl := Option.some.inj h17
      refine PJ.wk (Wk.sel (L2 := [(4, .bool false)]) (H2 := []) 0 (by rw [hFH]; rfl) hFD [] (by kernel_rfl) (by kernel_rfl) (by decide) (by kernel_rfl) (by kernel_rfl) (by kernel_rfl) (by kernel_rfl)) ?_
      exact PJ.cutN [4] (by kernel_rfl) (by kernel_rfl)
  · refine K.ret (by kernel_rfl) ?_
    obtain rfl := Option.some.inj h14
    exact K.ret0 (.inr rfl) hFn hFH hFD (by kernel_rfl) (by kernel_rfl) (by kernel_rfl)

def dec_work__side (x0 : St59) : Option (Int) :=
  (bif (decide ((x0.Dec_.D_.length : Int) = 0)) then (some 0) else (bif x0.Dec_.Neg_ then (some (-1)) else (some 1)))
theorem dec_work__side_ok {x0 : St59} {r : Int} (h : dec_work__side x0 = some r) : SC Tryd.prog 30 [.agg [.bool x0.Dec_.Neg_, lsv (encI .u8) 1 x0.Dec_.D_, .int .i64 x0.Dec_.E_]] [] (.int .i64 r) [] := by
  refine K.fn (fn := Tryd.f30) (by kernel_rfl) (by kernel_rfl) (by kernel_rfl) (by kernel_rfl) (by kernel_rfl) (fun F hFn hFH hFD => ?_)
  unfold dec_work__side at h
  refine K.seq (by kernel_rfl) ?_
  refine K.region (by kernel_rfl) ?_
  refine RJ.seg 2 [1, 2] (L2 := [(1, .ptr 0 0), (2, .int .i64 0)]) (H2 := [.box [.bool x0.Dec_.Neg_, lsv (encI .u8) 1 x0.Dec_.D_, .int .i64 x0.Dec_.E_]]) (by kernel_rfl) ?_
  refine RJ.end (by kernel_rfl) ?_
  refine PJ.next ?_
  refine K.seq (by kernel_rfl) ?_
  refine K.block 0 (by kernel_rfl) ?_
  refine K.seq (by kernel_rfl) ?_
  refine K.region (by kernel_rfl) ?_
  refine RJ.seg 6 [1, 2, 3] (L2 := [(1, .ptr 0 0), (2, .int .i64 0), (3, .bool ((decide ((x0.Dec_.D_.length : Int) = 0))))]) (H2 := [.box [.bool x0.Dec_.Neg_, lsv (encI .u8) 1 x0.Dec_.D_, .int .i64 x0.Dec_.E_]]) (by kernel_rfl) ?_
  refine RJ.end (by kernel_rfl) ?_
  refine PJ.next ?_
  refine J.caseB 3 (b := (decide ((x0.Dec_.D_.length : Int) = 0))) (by kernel_rfl) (fun hb1 => ?_) (fun hb1 => ?_)
  · have h2 := condT hb1 h
    refine K.condT (by kernel_rfl) ?_
    refine K.seq (by kernel_rfl) ?_
    refine K.region (by kernel_rfl) ?_
    refine RJ.seg 1 [2] (L2 := [(2, .int .i64 0)]) (H2 := [.box [.bool x0.Dec_.Neg_, lsv (encI .u8) 1 x0.Dec_.D_, .int .i64 x0.Dec_.E_]]) (by kernel_rfl) ?_
    refine RJ.end (by kernel_rfl) ?_
    refine PJ.next ?_
    refine K.ret (by kernel_rfl) ?_
    refine PJ.blockRet ?_
    refine PJ.passRet ?_
    obtain rfl := Option.some.inj h2
    exact K.ret0 (.inr rfl) hFn hFH hFD (by kernel_rfl) (by kernel_rfl) (by kernel_rfl)
  · have h3 := condF hb1 h
    refine K.condF (by kernel_rfl) ?_
    refine K.seq (by kernel_rfl) ?_
    refine K.region (by kernel_rfl) ?_
    refine RJ.seg 4 [2, 9] (L2 := [(2, .int .i64 0), (9, .bool x0.Dec_.Neg_)]) (H2 := [.box [.bool x0.Dec_.Neg_, lsv (encI .u8) 1 x0.Dec_.D_, .int .i64 x0.Dec_.E_]]) (by kernel_rfl) ?_
    refine RJ.end (by kernel_rfl) ?_
    refine PJ.next ?_
    refine J.caseB 9 (b := x0.Dec_.Neg_) (by kernel_rfl) (fun hb4 => ?_) (fun hb4 => ?_)
    · have h5 := condT hb4 h3
      refine K.condT (by kernel_rfl) ?_
      refine K.seq (by kernel_rfl) ?_
      refine K.region (by kernel_rfl) ?_
      refine RJ.seg 1 [2] (L2 := [(2, .int .i64 (-1))]) (H2 := [.box [.bool x0.Dec_.Neg_, lsv (encI .u8) 1 x0.Dec_.D_, .int .i64 x0.Dec_.E_]]) (by kernel_rfl) ?_
      refine RJ.end (by kernel_rfl) ?_
      refine PJ.next ?_
      refine K.ret (by kernel_rfl) ?_
      refine PJ.blockRet ?_
      refine PJ.passRet ?_
      obtain rfl := Option.some.inj h5
      exact K.ret0 (.inr rfl) hFn hFH hFD (by kernel_rfl) (by kernel_rfl) (by kernel_rfl)
    · have h6 := condF hb4 h3
      refine K.condF (by kernel_rfl) ?_
      refine K.skip (by kernel_rfl) ?_
      refine PJ.blockNormal ?_
      refine PJ.next ?_
      refine K.seq (by kernel_rfl) ?_
      refine K.region (by kernel_rfl) ?_
      refine RJ.seg 1 [2] (L2 := [(2, .int .i64 1)]) (H2 := [.box [.bool x0.Dec_.Neg_, lsv (encI .u8) 1 x0.Dec_.D_, .int .i64 x0.Dec_.E_]]) (by kernel_rfl) ?_
      refine RJ.end (by kernel_rfl) ?_
      refine PJ.next ?_
      refine K.ret (by kernel_rfl) ?_
      obtain rfl := Option.some.inj h6
      exact K.ret0 (.inr rfl) hFn hFH hFD (by kernel_rfl) (by kernel_rfl) (by kernel_rfl)

def dec_sign (x0 : Int) : Option (Int) :=
  (bif (decide (x0 < 0)) then (some (-1)) else (bif (decide (x0 > 0)) then (some 1) else (some 0)))
theorem dec_sign_ok {x0 : Int} {r : Int} (h : dec_sign x0 = some r) : SC Tryd.prog 31 [.int .i64 x0] [] (.int .i64 r) [] := by
  refine K.fn (fn := Tryd.f31) (by kernel_rfl) (by kernel_rfl) (by kernel_rfl) (by kernel_rfl) (by kernel_rfl) (fun F hFn hFH hFD => ?_)
  unfold dec_sign at h
  refine K.seq (by kernel_rfl) ?_
  refine K.region (by kernel_rfl) ?_
  refine RJ.seg 1 [0, 2] (L2 := [(0, .int .i64 x0), (2, .int .i64 0)]) (H2 := []) (by kernel_rfl) ?_
  refine RJ.end (by kernel_rfl) ?_
  refine PJ.next ?_
  refine K.seq (by kernel_rfl) ?_
  refine K.block 0 (by kernel_rfl) ?_
  refine K.seq (by kernel_rfl) ?_
  refine K.region (by kernel_rfl) ?_
  refine RJ.seg 3 [0, 2, 3] (L2 := [(0, .int .i64 x0), (2, .int .i64 0), (3, .bool (decide (x0 < 0)))]) (H2 := []) (by kernel_rfl) ?_
  refine RJ.end (by kernel_rfl) ?_
  refine PJ.next ?_
  refine J.caseB 3 (b := (decide (x0 < 0))) (by kernel_rfl) (fun hb1 => ?_) (fun hb1 => ?_)
  · have h2 := condT hb1 h
    refine K.condT (by kernel_rfl) ?_
    refine K.seq (by kernel_rfl) ?_
    refine K.region (by kernel_rfl) ?_
    refine RJ.seg 1 [2] (L2 := [(2, .int .i64 (-1))]) (H2 := []) (by kernel_rfl) ?_
    refine RJ.end (by kernel_rfl) ?_
    refine PJ.next ?_
    refine K.ret (by kernel_rfl) ?_
    refine PJ.blockRet ?_
    refine PJ.passRet ?_
    obtain rfl := Option.some.inj h2
    exact K.ret0 (.inr rfl) hFn hFH hFD (by kernel_rfl) (by kernel_rfl) (by kernel_rfl)
  · have h3 := condF hb1 h
    refine K.condF (by kernel_rfl) ?_
    refine K.seq (by kernel_rfl) ?_
    refine K.region (by kernel_rfl) ?_
    refine RJ.seg 3 [2, 6] (L2 := [(2, .int .i64 0), (6, .bool (decide (x0 > 0)))]) (H2 := []) (by kernel_rfl) ?_
    refine RJ.end (by kernel_rfl) ?_
    refine PJ.next ?_
    refine J.caseB 6 (b := (decide (x0 > 0))) (by kernel_rfl) (fun hb4 => ?_) (fun hb4 => ?_)
    · have h5 := condT hb4 h3
      refine K.condT (by kernel_rfl) ?_
      refine K.seq (by kernel_rfl) ?_
      refine K.region (by kernel_rfl) ?_
      refine RJ.seg 1 [2] (L2 := [(2, .int .i64 1)]) (H2 := []) (by kernel_rfl) ?_
      refine RJ.end (by kernel_rfl) ?_
      refine PJ.next ?_
      refine K.ret (by kernel_rfl) ?_
      refine PJ.blockRet ?_
      refine PJ.passRet ?_
      obtain rfl := Option.some.inj h5
      exact K.ret0 (.inr rfl) hFn hFH hFD (by kernel_rfl) (by kernel_rfl) (by kernel_rfl)
    · have h6 := condF hb4 h3
      refine K.condF (by kernel_rfl) ?_
      refine K.skip (by kernel_rfl) ?_
      refine PJ.blockNormal ?_
      refine PJ.next ?_
      refine K.seq (by kernel_rfl) ?_
      refine K.region (by kernel_rfl) ?_
      refine RJ.seg 1 [2] (L2 := [(2, .int .i64 0)]) (H2 := []) (by kernel_rfl) ?_
      refine RJ.end (by kernel_rfl) ?_
      refine PJ.next ?_
      refine K.ret (by kernel_rfl) ?_
      obtain rfl := Option.some.inj h6
      exact K.ret0 (.inr rfl) hFn hFH hFD (by kernel_rfl) (by kernel_rfl) (by kernel_rfl)

def dec_work__figure (x0 : St59) (x1 : Int) : Option (Int) :=
  (Option.bind (Option.bind (bif (decide (x1 < 0)) then (some true) else (some ((decide (x1 ≥ (x0.Dec_.D_.length : Int)))))) fun (s24 : Bool) => (bif s24 then (some (.inr 0)) else (some (.inl ())))) (joinX fun (s16 : Unit) => (bif inR x1 x0.Dec_.D_.length then (some (nth x0.Dec_.D_ x1)) else none)))
theorem dec_work__figure_ok {x0 : St59} {x1 : Int} {r : Int} (h : dec_work__figure x0 x1 = some r) : SC Tryd.prog 35 [.agg [.bool x0.Dec_.Neg_, lsv (encI .u8) 1 x0.Dec_.D_, .int .i64 x0.Dec_.E_], .int .i64 x1] [] (.int .u8 r) [] := by
  refine K.fn (fn := Tryd.f35) (by kernel_rfl) (by kernel_rfl) (by kernel_rfl) (by kernel_rfl) (by kernel_rfl) (fun F hFn hFH hFD => ?_)
  unfold dec_work__figure at h
  refine K.seq (by kernel_rfl) ?_
  refine K.region (by kernel_rfl) ?_
  refine RJ.seg 2 [1, 2, 4] (L2 := [(1, .int .i64 x1), (2, .ptr 0 0), (4, .int .u8 0)]) (H2 := [.box [.bool x0.Dec_.Neg_, lsv (encI .u8) 1 x0.Dec_.D_, .int .i64 x0.Dec_.E_]]) (by kernel_rfl) ?_
  refine RJ.end (by kernel_rfl) ?_
  refine PJ.next ?_
  obtain ⟨y17, hy18, h19⟩ := bindS h
  refine K.cutX (by kernel_rfl) (fun (s16 : Unit) => ([(1, .int .i64 x1), (2, .ptr 0 0), (4, .int .u8 0)], [.box [.bool x0.Dec_.Neg_, lsv (encI .u8) 1 x0.Dec_.D_, .int .i64 x0.Dec_.E_]])) y17 ?_ (fun s16 hs => ?_)
  · obtain ⟨s24, hy26, h28⟩ := bindS hy18
    refine K.cutN (by kernel_rfl) (fun (s24 : Bool) => ([(1, .int .i64 x1), (2, .ptr 0 0), (4, .int .u8 0), (14, .bool s24)], [.box [.bool x0.Dec_.Neg_, lsv (encI .u8) 1 x0.Dec_.D_, .int .i64 x0.Dec_.E_]])) s24 ?_ ?_
    · refine K.region (by kernel_rfl) ?_
      refine RJ.seg 3 [1, 2, 4, 7] (L2 := [(1, .int .i64 x1), (2, .ptr 0 0), (4, .int .u8 0), (7, .bool (decide (x1 < 0)))]) (H2 := [.box [.bool x0.Dec_.Neg_, lsv (encI .u8) 1 x0.Dec_.D_, .int .i64 x0.Dec_.E_]]) (by kernel_rfl) ?_
      refine RJ.caseB 7 (b := (decide (x1 < 0))) (by kernel_rfl) (fun hb29 => ?_) (fun hb29 => ?_)
      · have h30 := condT hb29 hy26
        refine RJ.seg 7 [1, 2, 4, 14] (L2 := [(1, .int .i64 x1), (2, .ptr 0 0), (4, .int .u8 0), (14, .bool true)]) (H2 := [.box [.bool x0.Dec_.Neg_, lsv (encI .u8) 1 x0.Dec_.D_, .int .i64 x0.Dec_.E_]]) (by kernel_rfl) ?_
        refine RJ.end (by kernel_rfl) ?_
        obtain rfl := Option.some.inj h30
        exact PJ.cutN [1, 2, 4, 14] (by kernel_rfl) (by kernel_rfl)
      · have h31 := condF hb29 hy26
        refine RJ.seg 7 [1, 2, 4, 14] (L2 := [(1, .int .i64 x1), (2, .ptr 0 0), (4, .int .u8 0), (14, .bool ((decide (x1 ≥ (x0.Dec_.D_.length : Int)))))]) (H2 := [.box [.bool x0.Dec_.Neg_, lsv (encI .u8) 1 x0.Dec_.D_, .int .i64 x0.Dec_.E_]]) (by kernel_rfl) ?_
        refine RJ.end (by kernel_rfl) ?_
        obtain rfl := Option.some.inj h31
        exact PJ.cutN [1, 2, 4, 14] (by kernel_rfl) (by kernel_rfl)
    · refine J.caseB 14 (b := s24) (by kernel_rfl) (fun hb32 => ?_) (fun hb32 => ?_)
      · have h33 := condT hb32 h28
        refine K.condT (by kernel_rfl) ?_
        refine K.seq (by kernel_rfl) ?_
        refine K.region (by kernel_rfl) ?_
        refine RJ.seg 1 [1, 2, 4] (L2 := [(1, .int .i64 x1), (2, .ptr 0 0), (4, .int .u8 0)]) (H2 := [.box [.bool x0.Dec_.Neg_, lsv (encI .u8) 1 x0.Dec_.D_, .int .i64 x0.Dec_.E_]]) (by kernel_rfl) ?_
        refine RJ.end (by kernel_rfl) ?_
        refine PJ.next ?_
        refine K.ret (by kernel_rfl) ?_
        obtain rfl := Option.some.inj h33
        have h35 := joinX_inr h19
        refine PJ.cutXr (fun e => nomatch e) ?_
        obtain rfl := Option.some.inj h35
        exact K.ret0 (.inr rfl) hFn hFH hFD (by kernel_rfl) (by kernel_rfl) (by kernel_rfl)
      · have h34 := condF hb32 h28
        refine K.condF (by kernel_rfl) ?_
        refine K.skip (by kernel_rfl) ?_
        obtain rfl := Option.some.inj h34
        exact PJ.cutXl [1, 2, 4] (by kernel_rfl) (by kernel_rfl)
  · subst hs
    have h20 := joinX_inl h19
    refine K.seq (by kernel_rfl) ?_
    refine K.region (by kernel_rfl) ?_
    refine RJ.seg 4 [4, 17, 18] (L2 := [(4, .int .u8 0), (17, lsv (encI .u8) 1 x0.Dec_.D_), (18, .int .i64 x1)]) (H2 := [.box [.bool x0.Dec_.Neg_, lsv (encI .u8) 1 x0.Dec_.D_, .int .i64 x0.Dec_.E_]]) (by kernel_rfl) ?_
    obtain ⟨hm, h36⟩ := asrt h20
    refine RJ.rel (d := (some 19)) (ef := ⟨.ep (((x0.Dec_.D_.flatMap (encI .u8)).drop ((x1 : Int).toNat * 1)).take 1), [], []⟩) (ef' := ⟨.ep ((encI .u8) (nth x0.Dec_.D_ x1)), [], []⟩) (c := inR x1 x0.Dec_.D_.length) (tr2 := []) (H2 := [.box [.bool x0.Dec_.Neg_, lsv (encI .u8) 1 x0.Dec_.D_, .int .i64 x0.Dec_.E_]]) (by kernel_rfl) hm (fun hc => N.idx (encI_len .u8) hc) (by kernel_rfl) ?_
    refine RJ.seg 2 [4] (L2 := [(4, .int .u8 (nth x0.Dec_.D_ x1))]) (H2 := [.box [.bool x0.Dec_.Neg_, lsv (encI .u8) 1 x0.Dec_.D_, .int .i64 x0.Dec_.E_]]) (by kernel_rfl) ?_
    refine RJ.end (by kernel_rfl) ?_
    refine PJ.next ?_
    refine K.ret (by kernel_rfl) ?_
    obtain rfl := Option.some.inj h36
    exact K.ret0 (.inr rfl) hFn hFH hFD (by kernel_rfl) (by kernel_rfl) (by kernel_rfl)

def dec_work__against (x0 : St59) (x1 : St59) : Option (Int) :=
  (Option.bind (dec_work__mag x0) fun y1 => (Option.bind (dec_work__mag x1) fun y4 => (Option.bind (dec_sign (IntKind.wrap .i64 (y1 - y4))) fun y7 => (bif (decide (¬ y7 = 0)) then (some y7) else (Option.bind (loopN (fun (s81 : Int) => (bif (decide (s81 < (maxI (x0.Dec_.D_.length : Int) (x1.Dec_.D_.length : Int)))) then (Option.bind (dec_work__figure x0 s81) fun y127 => (Option.bind (dec_work__figure x1 s81) fun y130 => (Option.bind (dec_sign ((IntKind.wrap .i64 ((IntKind.wrap .i64 y127) - (IntKind.wrap .i64 y130))))) fun y133 => (bif (decide (¬ y133 = 0)) then (some (.inr (.inr y133))) else (some (.inl (IntKind.wrap .i64 (s81 + 1)))))))) else (some (.inr (.inl ()))))) big 0) (joinX fun (s76 : Unit) => (some 0)))))))
theorem dec_work__against_ok {x0 : St59} {x1 : St59} {r : Int} (h : dec_work__against x0 x1 = some r) : SC Tryd.prog 32 [.agg [.bool x0.Dec_.Neg_, lsv (encI .u8) 1 x0.Dec_.D_, .int .i64 x0.Dec_.E_], .agg [.bool x1.Dec_.Neg_, lsv (encI .u8) 1 x1.Dec_.D_, .int .i64 x1.Dec_.E_]] [] (.int .i64 r) [] := by
  refine K.fn (fn := Tryd.f32) (by kernel_rfl) (by kernel_rfl) (by kernel_rfl) (by kernel_rfl) (by kernel_rfl) (fun F hFn hFH hFD => ?_)
  unfold dec_work__against at h
  refine K.seq (by kernel_rfl) ?_
  refine K.region (by kernel_rfl) ?_
  refine RJ.seg 3 [2, 3, 4] (L2 := [(2, .ptr 0 0), (3, .ptr 1 0), (4, .int .i64 0)]) (H2 := [.box [.bool x0.Dec_.Neg_, lsv (encI .u8) 1 x0.Dec_.D_, .int .i64 x0.Dec_.E_], .box [.bool x1.Dec_.Neg_, lsv (encI .u8) 1 x1.Dec_.D_, .int .i64 x1.Dec_.E_]]) (by kernel_rfl) ?_
  refine RJ.end (by kernel_rfl) ?_
  refine PJ.next ?_
  refine K.seq (by kernel_rfl) ?_
  refine K.seq (by kernel_rfl) ?_
  refine J.keep [2, 3, 4] (L2 := [(2, .ptr 0 0), (3, .ptr 1 0), (4, .int .i64 0)]) (by kernel_rfl) ?_
  refine K.draw (by kernel_rfl) (by kernel_rfl) (by kernel_rfl) (H2 := [.box [.bool x0.Dec_.Neg_, lsv (encI .u8) 1 x0.Dec_.D_, .int .i64 x0.Dec_.E_], .box [.bool x1.Dec_.Neg_, lsv (encI .u8) 1 x1.Dec_.D_, .int .i64 x1.Dec_.E_], .res, .res, .res]) (by kernel_rfl) (n := 2) (by kernel_rfl) ?_
  refine RJ.segD 1 (tr2 := [([0, 1], [])]) (L2 := [(8, .agg [.bool x0.Dec_.Neg_, lsv (encI .u8) 1 x0.Dec_.D_, .int .i64 x0.Dec_.E_]), (2, .ptr 0 0), (3, .ptr 1 0), (4, .int .i64 0)]) (H2 := [.box [.bool x0.Dec_.Neg_, lsv (encI .u8) 1 x0.Dec_.D_, .int .i64 x0.Dec_.E_], .box [.bool x1.Dec_.Neg_, lsv (encI .u8) 1 x1.Dec_.D_, .int .i64 x1.Dec_.E_], .res, .res, .res]) (by kernel_rfl) ?_
  obtain ⟨y1, hy2, h3⟩ := bindS h
  refine RJ.call0 (d := (some 9)) (f := 34) (args := [.agg [.bool x0.Dec_.Neg_, lsv (encI .u8) 1 x0.Dec_.D_, .int .i64 x0.Dec_.E_]]) (v := .int .i64 y1) (tr2 := [([0, 1], []), ([], [4, 5])]) (by kernel_rfl) (by kernel_rfl) (.cons (Le.refl _) .nil) (dec_work__mag_ok hy2) (by kernel_rfl) ?_
  refine RJ.segD 1 (tr2 := [([0, 1], []), ([], [4, 5]), ([2, 3], [])]) (L2 := [(10, .agg [.bool x1.Dec_.Neg_, lsv (encI .u8) 1 x1.Dec_.D_, .int .i64 x1.Dec_.E_]), (9, .int .i64 y1), (8, .agg [.bool x0.Dec_.Neg_, lsv (encI .u8) 1 x0.Dec_.D_, .int .i64 x0.Dec_.E_]), (2, .ptr 0 0), (3, .ptr 1 0), (4, .int .i64 0)]) (H2 := [.box [.bool x0.Dec_.Neg_, lsv (encI .u8) 1 x0.Dec_.D_, .int .i64 x0.Dec_.E_], .box [.bool x1.Dec_.Neg_, lsv (encI .u8) 1 x1.Dec_.D_, .int .i64 x1.Dec_.E_], .res, .res, .res]) (by kernel_rfl) ?_
  obtain ⟨y4, hy5, h6⟩ := bindS h3
  refine RJ.call0 (d := (some 11)) (f := 34) (args := [.agg [.bool x1.Dec_.Neg_, lsv (encI .u8) 1 x1.Dec_.D_, .int .i64 x1.Dec_.E_]]) (v := .int .i64 y4) (tr2 := [([0, 1], []), ([], [4, 5]), ([2, 3], []), ([], [6, 7])]) (by kernel_rfl) (by kernel_rfl) (.cons (Le.refl _) .nil) (dec_work__mag_ok hy5) (by kernel_rfl) ?_
  refine RJ.segD 1 (tr2 := [([0, 1], []), ([], [4, 5]), ([2, 3], []), ([], [6, 7]), ([], [])]) (L2 := [(12, .int .i64 (IntKind.wrap .i64 (y1 - y4))), (11, .int .i64 y4), (10, .agg [.bool x1.Dec_.Neg_, lsv (encI .u8) 1 x1.Dec_.D_, .int .i64 x1.Dec_.E_]), (9, .int .i64 y1), (8, .agg [.bool x0.Dec_.Neg_, lsv (encI .u8) 1 x0.Dec_.D_, .int .i64 x0.Dec_.E_]), (2, .ptr 0 0), (3, .ptr 1 0), (4, .int .i64 0)]) (H2 := [.box [.bool x0.Dec_.Neg_, lsv (encI .u8) 1 x0.Dec_.D_, .int .i64 x0.Dec_.E_], .box [.bool x1.Dec_.Neg_, lsv (encI .u8) 1 x1.Dec_.D_, .int .i64 x1.Dec_.E_], .res, .res, .res]) (by kernel_rfl) ?_
  obtain ⟨y7, hy8, h9⟩ := bindS h6
  refine RJ.call0 (d := (some 13)) (f := 31) (args := [.int .i64 (IntKind.wrap .i64 (y1 - y4))]) (v := .int .i64 y7) (tr2 := [([0, 1], []), ([], [4, 5]), ([2, 3], []), ([], [6, 7]), ([], []), ([], [8, 9])]) (by kernel_rfl) (by kernel_rfl) (.cons (Le.refl _) .nil) (dec_sign_ok hy8) (by kernel_rfl) ?_
  refine RJ.segD 1 (tr2 := [([0, 1], []), ([], [4, 5]), ([2, 3], []), ([], [6, 7]), ([], []), ([], [8, 9]), ([], [])]) (L2 := [(5, .int .i64 y7), (13, .int .i64 y7), (12, .int .i64 (IntKind.wrap .i64 (y1 - y4))), (11, .int .i64 y4), (10, .agg [.bool x1.Dec_.Neg_, lsv (encI .u8) 1 x1.Dec_.D_, .int .i64 x1.Dec_.E_]), (9, .int .i64 y1), (8, .agg [.bool x0.Dec_.Neg_, lsv (encI .u8) 1 x0.Dec_.D_, .int .i64 x0.Dec_.E_]), (2, .ptr 0 0), (3, .ptr 1 0), (4, .int .i64 0)]) (H2 := [.box [.bool x0.Dec_.Neg_, lsv (encI .u8) 1 x0.Dec_.D_, .int .i64 x0.Dec_.E_], .box [.bool x1.Dec_.Neg_, lsv (encI .u8) 1 x1.Dec_.D_, .int .i64 x1.Dec_.E_], .res, .res, .res]) (by kernel_rfl) ?_
  refine RJ.end (by kernel_rfl) ?_
  refine PJ.next ?_
  refine K.seq (by kernel_rfl) ?_
  refine K.region (by kernel_rfl) ?_
  refine RJ.seg 2 [2, 3, 4, 5, 15] (L2 := [(2, .ptr 0 0), (3, .ptr 1 0), (4, .int .i64 0), (5, .int .i64 y7), (15, .bool (decide (¬ y7 = 0)))]) (H2 := [.box [.bool x0.Dec_.Neg_, lsv (encI .u8) 1 x0.Dec_.D_, .int .i64 x0.Dec_.E_], .box [.bool x1.Dec_.Neg_, lsv (encI .u8) 1 x1.Dec_.D_, .int .i64 x1.Dec_.E_], .res, .res, .res]) (by kernel_rfl) ?_
  refine RJ.end (by kernel_rfl) ?_
  refine PJ.next ?_
  refine J.caseB 15 (b := (decide (¬ y7 = 0))) (by kernel_rfl) (fun hb10 => ?_) (fun hb10 => ?_)
  · have h11 := condT hb10 h9
    refine K.condT (by kernel_rfl) ?_
    refine K.seq (by kernel_rfl) ?_
    refine K.region (by kernel_rfl) ?_
    refine RJ.seg 2 [2, 3, 4] (L2 := [(2, .ptr 0 0), (3, .ptr 1 0), (4, .int .i64 y7)]) (H2 := [.box [.bool x0.Dec_.Neg_, lsv (encI .u8) 1 x0.Dec_.D_, .int .i64 x0.Dec_.E_], .box [.bool x1.Dec_.Neg_, lsv (encI .u8) 1 x1.Dec_.D_, .int .i64 x1.Dec_.E_], .res, .res, .res]) (by kernel_rfl) ?_
    refine RJ.end (by kernel_rfl) ?_
    refine PJ.next ?_
    refine K.ret (by kernel_rfl) ?_
    refine PJ.passRet ?_
    obtain rfl := Option.some.inj h11
    exact K.ret0 (.inr rfl) hFn hFH hFD (by kernel_rfl) (by kernel_rfl) (by kernel_rfl)
  · have h12 := condF hb10 h9
    refine K.condF (by kernel_rfl) ?_
    refine K.skip (by kernel_rfl) ?_
    refine PJ.next ?_
    obtain ⟨y77, hy78, h79⟩ := bindS h12
    refine K.cutX (by kernel_rfl) (fun (s76 : Unit) => ([(4, .int .i64 0)], [])) y77 ?_ (fun s76 hs => ?_)
    · refine K.seq (by kernel_rfl) ?_
      refine K.region (by kernel_rfl) ?_
      refine RJ.seg 10 [2, 3, 4, 25, 26] (L2 := [(2, .ptr 0 0), (3, .ptr 1 0), (4, .int .i64 0), (25, .int .i64 (maxI (x0.Dec_.D_.length : Int) (x1.Dec_.D_.length : Int))), (26, .int .i64 0)]) (H2 := [.box [.bool x0.Dec_.Neg_, lsv (encI .u8) 1 x0.Dec_.D_, .int .i64 x0.Dec_.E_], .box [.bool x1.Dec_.Neg_, lsv (encI .u8) 1 x1.Dec_.D_, .int .i64 x1.Dec_.E_], .res, .res, .res]) (by kernel_rfl) ?_
      refine RJ.end (by kernel_rfl) ?_
      refine PJ.next ?_
      refine K.block 0 (by kernel_rfl) ?_
      refine J.wk (Wk.sel (L2 := [(2, .ptr 0 0), (3, .ptr 1 0), (4, .int .i64 0), (25, .int .i64 (maxI (x0.Dec_.D_.length : Int) (x1.Dec_.D_.length : Int))), (26, .int .i64 0)]) (H2 := [.box [.bool x0.Dec_.Neg_, lsv (encI .u8) 1 x0.Dec_.D_, .int .i64 x0.Dec_.E_], .box [.bool x1.Dec_.Neg_, lsv (encI .u8) 1 x1.Dec_.D_, .int .i64 x1.Dec_.E_]]) 0 (by rw [hFH]; rfl) hFD [0, 1] (by kernel_rfl) (by kernel_rfl) (by decide) (by kernel_rfl) (by kernel_rfl) (by kernel_rfl) (by kernel_rfl)) ?_
      refine K.loop (by kernel_rfl) (fun (s81 : Int) => ([(2, .ptr 0 0), (3, .ptr 1 0), (4, .int .i64 0), (25, .int .i64 (maxI (x0.Dec_.D_.length : Int) (x1.Dec_.D_.length : Int))), (26, .int .i64 s81)], [.box [.bool x0.Dec_.Neg_, lsv (encI .u8) 1 x0.Dec_.D_, .int .i64 x0.Dec_.E_], .box [.bool x1.Dec_.Neg_, lsv (encI .u8) 1 x1.Dec_.D_, .int .i64 x1.Dec_.E_]])) hy78 [2, 3, 4, 25, 26] (by kernel_rfl) (by kernel_rfl) (fun s81 x123 hs122 => ?_)
      refine K.seq (by kernel_rfl) ?_
      refine K.region (by kernel_rfl) ?_
      refine RJ.seg 1 [2, 3, 4, 25, 26, 27] (L2 := [(2, .ptr 0 0), (3, .ptr 1 0), (4, .int .i64 0), (25, .int .i64 (maxI (x0.Dec_.D_.length : Int) (x1.Dec_.D_.length : Int))), (26, .int .i64 s81), (27, .bool ((decide (s81 < (maxI (x0.Dec_.D_.length : Int) (x1.Dec_.D_.length : Int))))))]) (H2 := [.box [.bool x0.Dec_.Neg_, lsv (encI .u8) 1 x0.Dec_.D_, .int .i64 x0.Dec_.E_], .box [.bool x1.Dec_.Neg_, lsv (encI .u8) 1 x1.Dec_.D_, .int .i64 x1.Dec_.E_]]) (by kernel_rfl) ?_
      refine RJ.end (by kernel_rfl) ?_
      refine PJ.next ?_
      refine K.seq (by kernel_rfl) ?_
      refine J.caseB 27 (b := (decide (s81 < (maxI (x0.Dec_.D_.length : Int) (x1.Dec_.D_.length : Int))))) (by kernel_rfl) (fun hb124 => ?_) (fun hb124 => ?_)
      · have h125 := condT hb124 hs122
        refine K.condT (by kernel_rfl) ?_
        refine K.skip (by kernel_rfl) ?_
        refine PJ.next ?_
        refine K.seq (by kernel_rfl) ?_
        refine K.block 1 (by kernel_rfl) ?_
        refine K.seq (by kernel_rfl) ?_
        refine K.region (by kernel_rfl) ?_
        refine RJ.seg 2 [2, 3, 4, 6, 25, 26] (L2 := [(2, .ptr 0 0), (3, .ptr 1 0), (4, .int .i64 0), (6, .int .i64 s81), (25, .int .i64 (maxI (x0.Dec_.D_.length : Int) (x1.Dec_.D_.length : Int))), (26, .int .i64 s81)]) (H2 := [.box [.bool x0.Dec_.Neg_, lsv (encI .u8) 1 x0.Dec_.D_, .int .i64 x0.Dec_.E_], .box [.bool x1.Dec_.Neg_, lsv (encI .u8) 1 x1.Dec_.D_, .int .i64 x1.Dec_.E_]]) (by kernel_rfl) ?_
        refine RJ.end (by kernel_rfl) ?_
        refine PJ.next ?_
        refine K.seq (by kernel_rfl) ?_
        refine J.keep [2, 3, 4, 6, 25, 26] (L2 := [(2, .ptr 0 0), (3, .ptr 1 0), (4, .int .i64 0), (6, .int .i64 s81), (25, .int .i64 (maxI (x0.Dec_.D_.length : Int) (x1.Dec_.D_.length : Int))), (26, .int .i64 s81)]) (by kernel_rfl) ?_
        refine K.draw (by kernel_rfl) (by kernel_rfl) (by kernel_rfl) (H2 := [.box [.bool x0.Dec_.Neg_, lsv (encI .u8) 1 x0.Dec_.D_, .int .i64 x0.Dec_.E_], .box [.bool x1.Dec_.Neg_, lsv (encI .u8) 1 x1.Dec_.D_, .int .i64 x1.Dec_.E_], .res, .res, .res]) (by kernel_rfl) (n := 2) (by kernel_rfl) ?_
        refine RJ.segD 2 (tr2 := [([0, 1], []), ([], [])]) (L2 := [(30, .int .i64 s81), (29, .agg [.bool x0.Dec_.Neg_, lsv (encI .u8) 1 x0.Dec_.D_, .int .i64 x0.Dec_.E_]), (2, .ptr 0 0), (3, .ptr 1 0), (4, .int .i64 0), (6, .int .i64 s81), (25, .int .i64 (maxI (x0.Dec_.D_.length : Int) (x1.Dec_.D_.length : Int))), (26, .int .i64 s81)]) (H2 := [.box [.bool x0.Dec_.Neg_, lsv (encI .u8) 1 x0.Dec_.D_, .int .i64 x0.Dec_.E_], .box [.bool x1.Dec_.Neg_, lsv (encI .u8) 1 x1.Dec_.D_, .int .i64 x1.Dec_.E_], .res, .res, .res]) (by kernel_rfl) ?_
        obtain ⟨y127, hy128, h129⟩ := bindS h125
        refine RJ.call0 (d := (some 31)) (f := 35) (args := [.agg [.bool x0.Dec_.Neg_, lsv (encI .u8) 1 x0.Dec_.D_, .int .i64 x0.Dec_.E_], .int .i64 s81]) (v := .int .u8 y127) (tr2 := [([0, 1], []), ([], []), ([], [4, 5])]) (by kernel_rfl) (by kernel_rfl) (.cons (Le.refl _) (.cons (Le.refl _) .nil)) (dec_work__figure_ok hy128) (by kernel_rfl) ?_
        refine RJ.segD 3 (tr2 := [([0, 1], []), ([], []), ([], [4, 5]), ([], []), ([2, 3], []), ([], [])]) (L2 := [(34, .int .i64 s81), (33, .agg [.bool x1.Dec_.Neg_, lsv (encI .u8) 1 x1.Dec_.D_, .int .i64 x1.Dec_.E_]), (32, .int .i64 (IntKind.wrap .i64 y127)), (31, .int .u8 y127), (30, .int .i64 s81), (29, .agg [.bool x0.Dec_.Neg_, lsv (encI .u8) 1 x0.Dec_.D_, .int .i64 x0.Dec_.E_]), (2, .ptr 0 0), (3, .ptr 1 0), (4, .int .i64 0), (6, .int .i64 s81), (25, .int .i64 (maxI (x0.Dec_.D_.length : Int) (x1.Dec_.D_.length : Int))), (26, .int .i64 s81)]) (H2 := [.box [.bool x0.Dec_.Neg_, lsv (encI .u8) 1 x0.Dec_.D_, .int .i64 x0.Dec_.E_], .box [.bool x1.Dec_.Neg_, lsv (encI .u8) 1 x1.Dec_.D_, .int .i64 x1.Dec_.E_], .res, .res, .res]) (by kernel_rfl) ?_
        obtain ⟨y130, hy131, h132⟩ := bindS h129
        refine RJ.call0 (d := (some 35)) (f := 35) (args := [.agg [.bool x1.Dec_.Neg_, lsv (encI .u8) 1 x1.Dec_.D_, .int .i64 x1.Dec_.E_], .int .i64 s81]) (v := .int .u8 y130) (tr2 := [([0, 1], []), ([], []), ([], [4, 5]), ([], []), ([2, 3], []), ([], []), ([], [6, 7])]) (by kernel_rfl) (by kernel_rfl) (.cons (Le.refl _) (.cons (Le.refl _) .nil)) (dec_work__figure_ok hy131) (by kernel_rfl) ?_
        refine RJ.segD 2 (tr2 := [([0, 1], []), ([], []), ([], [4, 5]), ([], []), ([2, 3], []), ([], []), ([], [6, 7]), ([], []), ([], [])]) (L2 := [(37, .int .i64 ((IntKind.wrap .i64 ((IntKind.wrap .i64 y127) - (IntKind.wrap .i64 y130))))), (36, .int .i64 (IntKind.wrap .i64 y130)), (35, .int .u8 y130), (34, .int .i64 s81), (33, .agg [.bool x1.Dec_.Neg_, lsv (encI .u8) 1 x1.Dec_.D_, .int .i64 x1.Dec_.E_]), (32, .int .i64 (IntKind.wrap .i64 y127)), (31, .int .u8 y127), (30, .int .i64 s81), (29, .agg [.bool x0.Dec_.Neg_, lsv (encI .u8) 1 x0.Dec_.D_, .int .i64 x0.Dec_.E_]), (2, .ptr 0 0), (3, .ptr 1 0), (4, .int .i64 0), (6, .int .i64 s81), (25, .int .i64 (maxI (x0.Dec_.D_.length : Int) (x1.Dec_.D_.length : Int))), (26, .int .i64 s81)]) (H2 := [.box [.bool x0.Dec_.Neg_, lsv (encI .u8) 1 x0.Dec_.D_, .int .i64 x0.Dec_.E_], .box [.bool x1.Dec_.Neg_, lsv (encI .u8) 1 x1.Dec_.D_, .int .i64 x1.Dec_.E_], .res, .res, .res]) (by kernel_rfl) ?_
        obtain ⟨y133, hy134, h135⟩ := bindS h132
        refine RJ.call0 (d := (some 38)) (f := 31) (args := [.int .i64 ((IntKind.wrap .i64 ((IntKind.wrap .i64 y127) - (IntKind.wrap .i64 y130))))]) (v := .int .i64 y133) (tr2 := [([0, 1], []), ([], []), ([], [4, 5]), ([], []), ([2, 3], []), ([], []), ([], [6, 7]), ([], []), ([], []), ([], [8, 9])]) (by kernel_rfl) (by kernel_rfl) (.cons (Le.refl _) .nil) (dec_sign_ok hy134) (by kernel_rfl) ?_
        refine RJ.segD 1 (tr2 := [([0, 1], []), ([], []), ([], [4, 5]), ([], []), ([2, 3], []), ([], []), ([], [6, 7]), ([], []), ([], []), ([], [8, 9]), ([], [])]) (L2 := [(7, .int .i64 y133), (38, .int .i64 y133), (37, .int .i64 ((IntKind.wrap .i64 ((IntKind.wrap .i64 y127) - (IntKind.wrap .i64 y130))))), (36, .int .i64 (IntKind.wrap .i64 y130)), (35, .int .u8 y130), (34, .int .i64 s81), (33, .agg [.bool x1.Dec_.Neg_, lsv (encI .u8) 1 x1.Dec_.D_, .int .i64 x1.Dec_.E_]), (32, .int .i64 (IntKind.wrap .i64 y127)), (31, .int .u8 y127), (30, .int .i64 s81), (29, .agg [.bool x0.Dec_.Neg_, lsv (encI .u8) 1 x0.Dec_.D_, .int .i64 x0.Dec_.E_]), (2, .ptr 0 0), (3, .ptr 1 0), (4, .int .i64 0), (6, .int .i64 s81), (25, .int .i64 (maxI (x0.Dec_.D_.length : Int) (x1.Dec_.D_.length : Int))), (26, .int .i64 s81)]) (H2 := [.box [.bool x0.Dec_.Neg_, lsv (encI .u8) 1 x0.Dec_.D_, .int .i64 x0.Dec_.E_], .box [.bool x1.Dec_.Neg_, lsv (encI .u8) 1 x1.Dec_.D_, .int .i64 x1.Dec_.E_], .res, .res, .res]) (by kernel_rfl) ?_
        refine RJ.end (by kernel_rfl) ?_
        refine PJ.next ?_
        refine K.seq (by kernel_rfl) ?_
        refine K.region (by kernel_rfl) ?_
        refine RJ.seg 2 [2, 3, 4, 7, 25, 26, 40] (L2 := [(2, .ptr 0 0), (3, .ptr 1 0), (4, .int .i64 0), (7, .int .i64 y133), (25, .int .i64 (maxI (x0.Dec_.D_.length : Int) (x1.Dec_.D_.length : Int))), (26, .int .i64 s81), (40, .bool (decide (¬ y133 = 0)))]) (H2 := [.box [.bool x0.Dec_.Neg_, lsv (encI .u8) 1 x0.Dec_.D_, .int .i64 x0.Dec_.E_], .box [.bool x1.Dec_.Neg_, lsv (encI .u8) 1 x1.Dec_.D_, .int .i64 x1.Dec_.E_], .res, .res, .res]) (by kernel_rfl) ?_
        refine RJ.end (by kernel_rfl) ?_
        refine PJ.next ?_
        refine J.caseB 40 (b := (decide (¬ y133 = 0))) (by kernel_rfl) (fun hb136 => ?_) (fun hb136 => ?_)
        · have h137 := condT hb136 h135
          refine K.condT (by kernel_rfl) ?_
          refine K.seq (by kernel_rfl) ?_
          refine K.region (by kernel_rfl) ?_
          refine RJ.seg 2 [2, 3, 4, 25, 26] (L2 := [(2, .ptr 0 0), (3, .ptr 1 0), (4, .int .i64 y133), (25, .int .i64 (maxI (x0.Dec_.D_.length : Int) (x1.Dec_.D_.length : Int))), (26, .int .i64 s81)]) (H2 := [.box [.bool x0.Dec_.Neg_, lsv (encI .u8) 1 x0.Dec_.D_, .int .i64 x0.Dec_.E_], .box [.bool x1.Dec_.Neg_, lsv (encI .u8) 1 x1.Dec_.D_, .int .i64 x1.Dec_.E_], .res, .res, .res]) (by kernel_rfl) ?_
          refine RJ.end (by kernel_rfl) ?_
          refine PJ.next ?_
          refine K.ret (by kernel_rfl) ?_
          refine PJ.blockRet ?_
          refine PJ.passRet ?_
          obtain rfl := Option.some.inj h137
          refine PJ.loopOut (fun e => nomatch e) (fun he141 => ?_)
          have h139 := congrArg some he141
          refine PJ.blockRet ?_
          obtain rfl := Option.some.inj h139
          have h140 := joinX_inr h79
          refine PJ.cutXr (fun e => nomatch e) ?_
          obtain rfl := Option.some.inj h140
          exact K.ret0 (.inr rfl) hFn hFH hFD (by kernel_rfl) (by kernel_rfl) (by kernel_rfl)
        · have h138 := condF hb136 h135
          refine K.condF (by kernel_rfl) ?_
          refine K.skip (by kernel_rfl) ?_
          refine PJ.blockNormal ?_
          refine PJ.next ?_
          refine K.region (by kernel_rfl) ?_
          refine RJ.seg 2 [2, 3, 4, 25, 26] (L2 := [(2, .ptr 0 0), (3, .ptr 1 0), (4, .int .i64 0), (25, .int .i64 (maxI (x0.Dec_.D_.length : Int) (x1.Dec_.D_.length : Int))), (26, .int .i64 (IntKind.wrap .i64 (s81 + 1)))]) (H2 := [.box [.bool x0.Dec_.Neg_, lsv (encI .u8) 1 x0.Dec_.D_, .int .i64 x0.Dec_.E_], .box [.bool x1.Dec_.Neg_, lsv (encI .u8) 1 x1.Dec_.D_, .int .i64 x1.Dec_.E_], .res, .res, .res]) (by kernel_rfl) ?_
          refine RJ.end (by kernel_rfl) ?_
          obtain rfl := Option.some.inj h138
          refine PJ.wk (Wk.sel (L2 := [(2, .ptr 0 0), (3, .ptr 1 0), (4, .int .i64 0), (25, .int .i64 (maxI (x0.Dec_.D_.length : Int) (x1.Dec_.D_.length : Int))), (26, .int .i64 (IntKind.wrap .i64 (s81 + 1)))]) (H2 := [.box [.bool x0.Dec_.Neg_, lsv (encI .u8) 1 x0.Dec_.D_, .int .i64 x0.Dec_.E_], .box [.bool x1.Dec_.Neg_, lsv (encI .u8) 1 x1.Dec_.D_, .int .i64 x1.Dec_.E_]]) 0 (by rw [hFH]; rfl) hFD [0, 1] (by kernel_rfl) (by kernel_rfl) (by decide) (by kernel_rfl) (by kernel_rfl) (by kernel_rfl) (by kernel_rfl)) ?_
          exact PJ.loopNext [2, 3, 4, 25, 26] (by kernel_rfl) (by kernel_rfl)
      · have h126 := condF hb124 hs122
        refine K.condF (by kernel_rfl) ?_
        refine K.exit 0 (by kernel_rfl) ?_
        refine PJ.passExit ?_
        obtain rfl := Option.some.inj h126
        refine PJ.loopOut (fun e => nomatch e) (fun he143 => ?_)
        have h142 := congrArg some he143
        refine PJ.blockOut ?_
        obtain rfl := Option.some.inj h142
        refine PJ.wk (Wk.sel (L2 := [(4, .int .i64 0)]) (H2 := []) 0 (by rw [hFH]; rfl) hFD [] (by kernel_rfl) (by kernel_rfl) (by decide) (by kernel_rfl) (by kernel_rfl) (by kernel_rfl) (by kernel_rfl)) ?_
        exact PJ.cutXl [4] (by kernel_rfl) (by kernel_rfl)
    · subst hs
      have h80 := joinX_inl h79
      refine K.seq (by kernel_rfl) ?_
      refine K.region (by kernel_rfl) ?_
      refine RJ.seg 1 [4] (L2 := [(4, .int .i64 0)]) (H2 := []) (by kernel_rfl) ?_
      refine RJ.end (by kernel_rfl) ?_
      refine PJ.next ?_
      refine K.ret (by kernel_rfl) ?_
      obtain rfl := Option.some.inj h80
      exact K.ret0 (.inr rfl) hFn hFH hFD (by kernel_rfl) (by kernel_rfl) (by kernel_rfl)

def dec_Cmp (x0 : St23) (x1 : St23) : Option (Int) :=
  (Option.bind (dec_work__side (⟨x0⟩ : St59)) fun y1 => (Option.bind (Option.bind (Option.bind (dec_work__side (⟨x1⟩ : St59)) fun y47 => (bif (decide (¬ y1 = y47)) then (some true) else (some (decide (y1 = 0))))) fun (s42 : Bool) => (bif s42 then (Option.bind (dec_work__side (⟨x1⟩ : St59)) fun y56 => (Option.bind (dec_sign (IntKind.wrap .i64 (y1 - y56))) fun y59 => (some (.inr y59)))) else (some (.inl ())))) (joinX fun (s31 : Unit) => (Option.bind (dec_work__against (⟨x0⟩ : St59) (⟨x1⟩ : St59)) fun y63 => (some (IntKind.wrap .i64 (y1 * y63)))))))
theorem dec_Cmp_ok {x0 : St23} {x1 : St23} {r : Int} (h : dec_Cmp x0 x1 = some r) : SC Tryd.prog 17 [.agg [.bool x0.Neg_, lsv (encI .u8) 1 x0.D_, .int .i64 x0.E_], .agg [.bool x1.Neg_, lsv (encI .u8) 1 x1.D_, .int .i64 x1.E_]] [] (.int .i64 r) [] := by
  refine K.fn (fn := Tryd.f17) (by kernel_rfl) (by kernel_rfl) (by kernel_rfl) (by kernel_rfl) (by kernel_rfl) (fun F hFn hFH hFD => ?_)
  unfold dec_Cmp at h
  refine K.seq (by kernel_rfl) ?_
  refine K.region (by kernel_rfl) ?_
  refine RJ.seg 3 [2, 3, 4] (L2 := [(2, .ptr 0 0), (3, .ptr 1 0), (4, .int .i64 0)]) (H2 := [.box [.bool x0.Neg_, lsv (encI .u8) 1 x0.D_, .int .i64 x0.E_], .box [.bool x1.Neg_, lsv (encI .u8) 1 x1.D_, .int .i64 x1.E_]]) (by kernel_rfl) ?_
  refine RJ.end (by kernel_rfl) ?_
  refine PJ.next ?_
  refine K.seq (by kernel_rfl) ?_
  refine J.keep [2, 3, 4] (L2 := [(2, .ptr 0 0), (3, .ptr 1 0), (4, .int .i64 0)]) (by kernel_rfl) ?_
  refine K.draw (by kernel_rfl) (by kernel_rfl) (by kernel_rfl) (H2 := [.box [.bool x0.Neg_, lsv (encI .u8) 1 x0.D_, .int .i64 x0.E_], .box [.bool x1.Neg_, lsv (encI .u8) 1 x1.D_, .int .i64 x1.E_], .res, .res]) (by kernel_rfl) (n := 2) (by kernel_rfl) ?_
  refine RJ.segD 8 (tr2 := [([0, 1], []), ([], []), ([2, 3], []), ([], []), ([], [4, 5, 4, 5]), ([], [6, 7, 6, 7]), ([4, 5], [4]), ([6, 7], [6])]) (L2 := [(6, .ptr 3 0), (5, .ptr 2 0), (11, .agg [.bool x1.Neg_, lsv (encI .u8) 1 x1.D_, .int .i64 x1.E_]), (10, .agg [.bool x1.Neg_, lsv (encI .u8) 1 x1.D_, .int .i64 x1.E_]), (9, .agg [.bool x0.Neg_, lsv (encI .u8) 1 x0.D_, .int .i64 x0.E_]), (8, .agg [.bool x0.Neg_, lsv (encI .u8) 1 x0.D_, .int .i64 x0.E_]), (2, .ptr 0 0), (3, .ptr 1 0), (4, .int .i64 0)]) (H2 := [.box [.bool x0.Neg_, lsv (encI .u8) 1 x0.D_, .int .i64 x0.E_], .box [.bool x1.Neg_, lsv (encI .u8) 1 x1.D_, .int .i64 x1.E_], .box [.bool x0.Neg_, lsv (encI .u8) 1 x0.D_, .int .i64 x0.E_], .box [.bool x1.Neg_, lsv (encI .u8) 1 x1.D_, .int .i64 x1.E_]]) (by kernel_rfl) ?_
  refine RJ.end (by kernel_rfl) ?_
  refine PJ.next ?_
  refine K.seq (by kernel_rfl) ?_
  refine K.region (by kernel_rfl) ?_
  refine RJ.seg 1 [4, 5, 6, 12] (L2 := [(4, .int .i64 0), (5, .ptr 2 0), (6, .ptr 3 0), (12, .agg [.bool x0.Neg_, lsv (encI .u8) 1 x0.D_, .int .i64 x0.E_])]) (H2 := [.box [.bool x0.Neg_, lsv (encI .u8) 1 x0.D_, .int .i64 x0.E_], .box [.bool x1.Neg_, lsv (encI .u8) 1 x1.D_, .int .i64 x1.E_], .box [.bool x0.Neg_, lsv (encI .u8) 1 x0.D_, .int .i64 x0.E_], .box [.bool x1.Neg_, lsv (encI .u8) 1 x1.D_, .int .i64 x1.E_]]) (by kernel_rfl) ?_
  obtain ⟨y1, hy2, h3⟩ := bindS h
  refine RJ.call0 (d := (some 13)) (f := 30) (args := [.agg [.bool x0.Neg_, lsv (encI .u8) 1 x0.D_, .int .i64 x0.E_]]) (v := .int .i64 y1) (tr2 := []) (by kernel_rfl) (by kernel_rfl) (.cons (Le.refl _) .nil) (dec_work__side_ok hy2) (by kernel_rfl) ?_
  refine RJ.seg 1 [4, 5, 6, 7] (L2 := [(4, .int .i64 0), (5, .ptr 2 0), (6, .ptr 3 0), (7, .int .i64 y1)]) (H2 := [.box [.bool x0.Neg_, lsv (encI .u8) 1 x0.D_, .int .i64 x0.E_], .box [.bool x1.Neg_, lsv (encI .u8) 1 x1.D_, .int .i64 x1.E_], .box [.bool x0.Neg_, lsv (encI .u8) 1 x0.D_, .int .i64 x0.E_], .box [.bool x1.Neg_, lsv (encI .u8) 1 x1.D_, .int .i64 x1.E_]]) (by kernel_rfl) ?_
  refine RJ.end (by kernel_rfl) ?_
  refine PJ.next ?_
  obtain ⟨y32, hy33, h34⟩ := bindS h3
  refine K.cutX (by kernel_rfl) (fun (s31 : Unit) => ([(4, .int .i64 0), (5, .ptr 0 0), (6, .ptr 1 0), (7, .int .i64 y1)], [.box [.bool x0.Neg_, lsv (encI .u8) 1 x0.D_, .int .i64 x0.E_], .box [.bool x1.Neg_, lsv (encI .u8) 1 x1.D_, .int .i64 x1.E_]])) y32 ?_ (fun s31 hs => ?_)
  · obtain ⟨s42, hy44, h46⟩ := bindS hy33
    refine K.cutN (by kernel_rfl) (fun (s42 : Bool) => ([(4, .int .i64 0), (5, .ptr 0 0), (6, .ptr 1 0), (7, .int .i64 y1), (21, .bool s42)], [.box [.bool x0.Neg_, lsv (encI .u8) 1 x0.D_, .int .i64 x0.E_], .box [.bool x1.Neg_, lsv (encI .u8) 1 x1.D_, .int .i64 x1.E_]])) s42 ?_ ?_
    · refine K.region (by kernel_rfl) ?_
      refine RJ.seg 2 [4, 5, 6, 7, 14, 15] (L2 := [(4, .int .i64 0), (5, .ptr 2 0), (6, .ptr 3 0), (7, .int .i64 y1), (14, .int .i64 y1), (15, .agg [.bool x1.Neg_, lsv (encI .u8) 1 x1.D_, .int .i64 x1.E_])]) (H2 := [.box [.bool x0.Neg_, lsv (encI .u8) 1 x0.D_, .int .i64 x0.E_], .box [.bool x1.Neg_, lsv (encI .u8) 1 x1.D_, .int .i64 x1.E_], .box [.bool x0.Neg_, lsv (encI .u8) 1 x0.D_, .int .i64 x0.E_], .box [.bool x1.Neg_, lsv (encI .u8) 1 x1.D_, .int .i64 x1.E_]]) (by kernel_rfl) ?_
      obtain ⟨y47, hy48, h49⟩ := bindS hy44
      refine RJ.call0 (d := (some 16)) (f := 30) (args := [.agg [.bool x1.Neg_, lsv (encI .u8) 1 x1.D_, .int .i64 x1.E_]]) (v := .int .i64 y47) (tr2 := []) (by kernel_rfl) (by kernel_rfl) (.cons (Le.refl _) .nil) (dec_work__side_ok hy48) (by kernel_rfl) ?_
      refine RJ.seg 2 [4, 5, 6, 7, 18] (L2 := [(4, .int .i64 0), (5, .ptr 2 0), (6, .ptr 3 0), (7, .int .i64 y1), (18, .bool (decide (¬ y1 = y47)))]) (H2 := [.box [.bool x0.Neg_, lsv (encI .u8) 1 x0.D_, .int .i64 x0.E_], .box [.bool x1.Neg_, lsv (encI .u8) 1 x1.D_, .int .i64 x1.E_], .box [.bool x0.Neg_, lsv (encI .u8) 1 x0.D_, .int .i64 x0.E_], .box [.bool x1.Neg_, lsv (encI .u8) 1 x1.D_, .int .i64 x1.E_]]) (by kernel_rfl) ?_
      refine RJ.caseB 18 (b := (decide (¬ y1 = y47))) (by kernel_rfl) (fun hb50 => ?_) (fun hb50 => ?_)
      · have h51 := condT hb50 h49
        refine RJ.seg 3 [4, 5, 6, 7, 21] (L2 := [(4, .int .i64 0), (5, .ptr 2 0), (6, .ptr 3 0), (7, .int .i64 y1), (21, .bool true)]) (H2 := [.box [.bool x0.Neg_, lsv (encI .u8) 1 x0.D_, .int .i64 x0.E_], .box [.bool x1.Neg_, lsv (encI .u8) 1 x1.D_, .int .i64 x1.E_], .box [.bool x0.Neg_, lsv (encI .u8) 1 x0.D_, .int .i64 x0.E_], .box [.bool x1.Neg_, lsv (encI .u8) 1 x1.D_, .int .i64 x1.E_]]) (by kernel_rfl) ?_
        refine RJ.end (by kernel_rfl) ?_
        obtain rfl := Option.some.inj h51
        refine PJ.wk (Wk.sel (L2 := [(4, .int .i64 0), (5, .ptr 0 0), (6, .ptr 1 0), (7, .int .i64 y1), (21, .bool true)]) (H2 := [.box [.bool x0.Neg_, lsv (encI .u8) 1 x0.D_, .int .i64 x0.E_], .box [.bool x1.Neg_, lsv (encI .u8) 1 x1.D_, .int .i64 x1.E_]]) 0 (by rw [hFH]; rfl) hFD [2, 3] (by kernel_rfl) (by kernel_rfl) (by decide) (by kernel_rfl) (by kernel_rfl) (by kernel_rfl) (by kernel_rfl)) ?_
        exact PJ.cutN [4, 5, 6, 7, 21] (by kernel_rfl) (by kernel_rfl)
      · have h52 := condF hb50 h49
        refine RJ.seg 3 [4, 5, 6, 7, 21] (L2 := [(4, .int .i64 0), (5, .ptr 2 0), (6, .ptr 3 0), (7, .int .i64 y1), (21, .bool (decide (y1 = 0)))]) (H2 := [.box [.bool x0.Neg_, lsv (encI .u8) 1 x0.D_, .int .i64 x0.E_], .box [.bool x1.Neg_, lsv (encI .u8) 1 x1.D_, .int .i64 x1.E_], .box [.bool x0.Neg_, lsv (encI .u8) 1 x0.D_, .int .i64 x0.E_], .box [.bool x1.Neg_, lsv (encI .u8) 1 x1.D_, .int .i64 x1.E_]]) (by kernel_rfl) ?_
        refine RJ.end (by kernel_rfl) ?_
        obtain rfl := Option.some.inj h52
        refine PJ.wk (Wk.sel (L2 := [(4, .int .i64 0), (5, .ptr 0 0), (6, .ptr 1 0), (7, .int .i64 y1), (21, .bool (decide (y1 = 0)))]) (H2 := [.box [.bool x0.Neg_, lsv (encI .u8) 1 x0.D_, .int .i64 x0.E_], .box [.bool x1.Neg_, lsv (encI .u8) 1 x1.D_, .int .i64 x1.E_]]) 0 (by rw [hFH]; rfl) hFD [2, 3] (by kernel_rfl) (by kernel_rfl) (by decide) (by kernel_rfl) (by kernel_rfl) (by kernel_rfl) (by kernel_rfl)) ?_
        exact PJ.cutN [4, 5, 6, 7, 21] (by kernel_rfl) (by kernel_rfl)
    · refine J.caseB 21 (b := s42) (by kernel_rfl) (fun hb53 => ?_) (fun hb53 => ?_)
      · have h54 := condT hb53 h46
        refine K.condT (by kernel_rfl) ?_
        refine K.seq (by kernel_rfl) ?_
        refine K.region (by kernel_rfl) ?_
        refine RJ.seg 2 [4, 5, 6, 7, 22, 23] (L2 := [(4, .int .i64 0), (5, .ptr 0 0), (6, .ptr 1 0), (7, .int .i64 y1), (22, .int .i64 y1), (23, .agg [.bool x1.Neg_, lsv (encI .u8) 1 x1.D_, .int .i64 x1.E_])]) (H2 := [.box [.bool x0.Neg_, lsv (encI .u8) 1 x0.D_, .int .i64 x0.E_], .box [.bool x1.Neg_, lsv (encI .u8) 1 x1.D_, .int .i64 x1.E_]]) (by kernel_rfl) ?_
        obtain ⟨y56, hy57, h58⟩ := bindS h54
        refine RJ.call0 (d := (some 24)) (f := 30) (args := [.agg [.bool x1.Neg_, lsv (encI .u8) 1 x1.D_, .int .i64 x1.E_]]) (v := .int .i64 y56) (tr2 := []) (by kernel_rfl) (by kernel_rfl) (.cons (Le.refl _) .nil) (dec_work__side_ok hy57) (by kernel_rfl) ?_
        refine RJ.seg 1 [4, 5, 6, 7, 25] (L2 := [(4, .int .i64 0), (5, .ptr 0 0), (6, .ptr 1 0), (7, .int .i64 y1), (25, .int .i64 (IntKind.wrap .i64 (y1 - y56)))]) (H2 := [.box [.bool x0.Neg_, lsv (encI .u8) 1 x0.D_, .int .i64 x0.E_], .box [.bool x1.Neg_, lsv (encI .u8) 1 x1.D_, .int .i64 x1.E_]]) (by kernel_rfl) ?_
        obtain ⟨y59, hy60, h61⟩ := bindS h58
        refine RJ.call0 (d := (some 26)) (f := 31) (args := [.int .i64 (IntKind.wrap .i64 (y1 - y56))]) (v := .int .i64 y59) (tr2 := []) (by kernel_rfl) (by kernel_rfl) (.cons (Le.refl _) .nil) (dec_sign_ok hy60) (by kernel_rfl) ?_
        refine RJ.seg 1 [4, 5, 6, 7] (L2 := [(4, .int .i64 y59), (5, .ptr 0 0), (6, .ptr 1 0), (7, .int .i64 y1)]) (H2 := [.box [.bool x0.Neg_, lsv (encI .u8) 1 x0.D_, .int .i64 x0.E_], .box [.bool x1.Neg_, lsv (encI .u8) 1 x1.D_, .int .i64 x1.E_]]) (by kernel_rfl) ?_
        refine RJ.end (by kernel_rfl) ?_
        refine PJ.next ?_
        refine K.ret (by kernel_rfl) ?_
        obtain rfl := Option.some.inj h61
        have h62 := joinX_inr h34
        refine PJ.cutXr (fun e => nomatch e) ?_
        obtain rfl := Option.some.inj h62
        exact K.ret0 (.inr rfl) hFn hFH hFD (by kernel_rfl) (by kernel_rfl) (by kernel_rfl)
      · have h55 := condF hb53 h46
        refine K.condF (by kernel_rfl) ?_
        refine K.skip (by kernel_rfl) ?_
        obtain rfl := Option.some.inj h55
        exact PJ.cutXl [4, 5, 6, 7] (by kernel_rfl) (by kernel_rfl)
  · subst hs
    have h35 := joinX_inl h34
    refine K.seq (by kernel_rfl) ?_
    refine K.region (by kernel_rfl) ?_
    refine RJ.seg 3 [4, 27, 28, 29] (L2 := [(4, .int .i64 0), (27, .int .i64 y1), (28, .agg [.bool x0.Neg_, lsv (encI .u8) 1 x0.D_, .int .i64 x0.E_]), (29, .agg [.bool x1.Neg_, lsv (encI .u8) 1 x1.D_, .int .i64 x1.E_])]) (H2 := [.box [.bool x0.Neg_, lsv (encI .u8) 1 x0.D_, .int .i64 x0.E_], .box [.bool x1.Neg_, lsv (encI .u8) 1 x1.D_, .int .i64 x1.E_]]) (by kernel_rfl) ?_
    obtain ⟨y63, hy64, h65⟩ := bindS h35
    refine RJ.call0 (d := (some 30)) (f := 32) (args := [.agg [.bool x0.Neg_, lsv (encI .u8) 1 x0.D_, .int .i64 x0.E_], .agg [.bool x1.Neg_, lsv (encI .u8) 1 x1.D_, .int .i64 x1.E_]]) (v := .int .i64 y63) (tr2 := []) (by kernel_rfl) (by kernel_rfl) (.cons (Le.refl _) (.cons (Le.refl _) .nil)) (dec_work__against_ok hy64) (by kernel_rfl) ?_
    refine RJ.seg 2 [4] (L2 := [(4, .int .i64 (IntKind.wrap .i64 (y1 * y63)))]) (H2 := [.box [.bool x0.Neg_, lsv (encI .u8) 1 x0.D_, .int .i64 x0.E_], .box [.bool x1.Neg_, lsv (encI .u8) 1 x1.D_, .int .i64 x1.E_]]) (by kernel_rfl) ?_
    refine RJ.end (by kernel_rfl) ?_
    refine PJ.next ?_
    refine K.ret (by kernel_rfl) ?_
    obtain rfl := Option.some.inj h65
    exact K.ret0 (.inr rfl) hFn hFH hFD (by kernel_rfl) (by kernel_rfl) (by kernel_rfl)

def dec_At (x0 : St23) (x1 : Int) : Option (Int) :=
  (Option.bind (Option.bind (bif (decide (x1 < x0.E_)) then (some true) else (Option.bind (dec_work__mag (⟨x0⟩ : St59)) fun y41 => (some (decide (x1 > y41))))) fun (s33 : Bool) => (bif s33 then (some (.inr 0)) else (some (.inl ())))) (joinX fun (s22 : Unit) => (Option.bind (dec_work__mag (⟨x0⟩ : St59)) fun y48 => (Option.bind (dec_work__figure (⟨x0⟩ : St59) (IntKind.wrap .i64 (y48 - x1))) fun y51 => (some y51)))))
theorem dec_At_ok {x0 : St23} {x1 : Int} {r : Int} (h : dec_At x0 x1 = some r) : SC Tryd.prog 21 [.agg [.bool x0.Neg_, lsv (encI .u8) 1 x0.D_, .int .i64 x0.E_], .int .i64 x1] [] (.int .u8 r) [] := by
  refine K.fn (fn := Tryd.f21) (by kernel_rfl) (by kernel_rfl) (by kernel_rfl) (by kernel_rfl) (by kernel_rfl) (fun F hFn hFH hFD => ?_)
  unfold dec_At at h
  refine K.seq (by kernel_rfl) ?_
  refine K.region (by kernel_rfl) ?_
  refine RJ.seg 2 [1, 2, 4] (L2 := [(1, .int .i64 x1), (2, .ptr 0 0), (4, .int .u8 0)]) (H2 := [.box [.bool x0.Neg_, lsv (encI .u8) 1 x0.D_, .int .i64 x0.E_]]) (by kernel_rfl) ?_
  refine RJ.end (by kernel_rfl) ?_
  refine PJ.next ?_
  refine K.seq (by kernel_rfl) ?_
  refine K.region (by kernel_rfl) ?_
  refine RJ.seg 4 [1, 4, 5] (L2 := [(1, .int .i64 x1), (4, .int .u8 0), (5, .ptr 1 0)]) (H2 := [.box [.bool x0.Neg_, lsv (encI .u8) 1 x0.D_, .int .i64 x0.E_], .box [.bool x0.Neg_, lsv (encI .u8) 1 x0.D_, .int .i64 x0.E_]]) (by kernel_rfl) ?_
  refine RJ.end (by kernel_rfl) ?_
  refine PJ.next ?_
  obtain ⟨y23, hy24, h25⟩ := bindS h
  refine K.cutX (by kernel_rfl) (fun (s22 : Unit) => ([(1, .int .i64 x1), (4, .int .u8 0), (5, .ptr 0 0)], [.box [.bool x0.Neg_, lsv (encI .u8) 1 x0.D_, .int .i64 x0.E_]])) y23 ?_ (fun s22 hs => ?_)
  · obtain ⟨s33, hy35, h37⟩ := bindS hy24
    refine K.cutN (by kernel_rfl) (fun (s33 : Bool) => ([(1, .int .i64 x1), (4, .int .u8 0), (5, .ptr 0 0), (18, .bool s33)], [.box [.bool x0.Neg_, lsv (encI .u8) 1 x0.D_, .int .i64 x0.E_]])) s33 ?_ ?_
    · refine K.region (by kernel_rfl) ?_
      refine RJ.seg 6 [1, 4, 5, 13] (L2 := [(1, .int .i64 x1), (4, .int .u8 0), (5, .ptr 1 0), (13, .bool (decide (x1 < x0.E_)))]) (H2 := [.box [.bool x0.Neg_, lsv (encI .u8) 1 x0.D_, .int .i64 x0.E_], .box [.bool x0.Neg_, lsv (encI .u8) 1 x0.D_, .int .i64 x0.E_]]) (by kernel_rfl) ?_
      refine RJ.caseB 13 (b := (decide (x1 < x0.E_))) (by kernel_rfl) (fun hb38 => ?_) (fun hb38 => ?_)
      · have h39 := condT hb38 hy35
        refine RJ.seg 5 [1, 4, 5, 18] (L2 := [(1, .int .i64 x1), (4, .int .u8 0), (5, .ptr 1 0), (18, .bool true)]) (H2 := [.box [.bool x0.Neg_, lsv (encI .u8) 1 x0.D_, .int .i64 x0.E_], .box [.bool x0.Neg_, lsv (encI .u8) 1 x0.D_, .int .i64 x0.E_]]) (by kernel_rfl) ?_
        refine RJ.end (by kernel_rfl) ?_
        obtain rfl := Option.some.inj h39
        refine PJ.wk (Wk.sel (L2 := [(1, .int .i64 x1), (4, .int .u8 0), (5, .ptr 0 0), (18, .bool true)]) (H2 := [.box [.bool x0.Neg_, lsv (encI .u8) 1 x0.D_, .int .i64 x0.E_]]) 0 (by rw [hFH]; rfl) hFD [1] (by kernel_rfl) (by kernel_rfl) (by decide) (by kernel_rfl) (by kernel_rfl) (by kernel_rfl) (by kernel_rfl)) ?_
        exact PJ.cutN [1, 4, 5, 18] (by kernel_rfl) (by kernel_rfl)
      · have h40 := condF hb38 hy35
        refine RJ.seg 2 [1, 4, 5, 13, 14, 15] (L2 := [(1, .int .i64 x1), (4, .int .u8 0), (5, .ptr 1 0), (13, .bool false), (14, .int .i64 x1), (15, .agg [.bool x0.Neg_, lsv (encI .u8) 1 x0.D_, .int .i64 x0.E_])]) (H2 := [.box [.bool x0.Neg_, lsv (encI .u8) 1 x0.D_, .int .i64 x0.E_], .box [.bool x0.Neg_, lsv (encI .u8) 1 x0.D_, .int .i64 x0.E_]]) (by kernel_rfl) ?_
        obtain ⟨y41, hy42, h43⟩ := bindS h40
        refine RJ.call0 (d := (some 16)) (f := 34) (args := [.agg [.bool x0.Neg_, lsv (encI .u8) 1 x0.D_, .int .i64 x0.E_]]) (v := .int .i64 y41) (tr2 := []) (by kernel_rfl) (by kernel_rfl) (.cons (Le.refl _) .nil) (dec_work__mag_ok hy42) (by kernel_rfl) ?_
        refine RJ.seg 2 [1, 4, 5, 18] (L2 := [(1, .int .i64 x1), (4, .int .u8 0), (5, .ptr 1 0), (18, .bool (decide (x1 > y41)))]) (H2 := [.box [.bool x0.Neg_, lsv (encI .u8) 1 x0.D_, .int .i64 x0.E_], .box [.bool x0.Neg_, lsv (encI .u8) 1 x0.D_, .int .i64 x0.E_]]) (by kernel_rfl) ?_
        refine RJ.end (by kernel_rfl) ?_
        obtain rfl := Option.some.inj h43
        refine PJ.wk (Wk.sel (L2 := [(1, .int .i64 x1), (4, .int .u8 0), (5, .ptr 0 0), (18, .bool (decide (x1 > y41)))]) (H2 := [.box [.bool x0.Neg_, lsv (encI .u8) 1 x0.D_, .int .i64 x0.E_]]) 0 (by rw [hFH]; rfl) hFD [1] (by kernel_rfl) (by kernel_rfl) (by decide) (by kernel_rfl) (by kernel_rfl) (by kernel_rfl) (by kernel_rfl)) ?_
        exact PJ.cutN [1, 4, 5, 18] (by kernel_rfl) (by kernel_rfl)
    · refine J.caseB 18 (b := s33) (by kernel_rfl) (fun hb44 => ?_) (fun hb44 => ?_)
      · have h45 := condT hb44 h37
        refine K.condT (by kernel_rfl) ?_
        refine K.seq (by kernel_rfl) ?_
        refine K.region (by kernel_rfl) ?_
        refine RJ.seg 1 [1, 4, 5] (L2 := [(1, .int .i64 x1), (4, .int .u8 0), (5, .ptr 0 0)]) (H2 := [.box [.bool x0.Neg_, lsv (encI .u8) 1 x0.D_, .int .i64 x0.E_]]) (by kernel_rfl) ?_
        refine RJ.end (by kernel_rfl) ?_
        refine PJ.next ?_
        refine K.ret (by kernel_rfl) ?_
        obtain rfl := Option.some.inj h45
        have h47 := joinX_inr h25
        refine PJ.cutXr (fun e => nomatch e) ?_
        obtain rfl := Option.some.inj h47
        exact K.ret0 (.inr rfl) hFn hFH hFD (by kernel_rfl) (by kernel_rfl) (by kernel_rfl)
      · have h46 := condF hb44 h37
        refine K.condF (by kernel_rfl) ?_
        refine K.skip (by kernel_rfl) ?_
        obtain rfl := Option.some.inj h46
        exact PJ.cutXl [1, 4, 5] (by kernel_rfl) (by kernel_rfl)
  · subst hs
    have h26 := joinX_inl h25
    refine K.seq (by kernel_rfl) ?_
    refine J.keep [1, 4, 5] (L2 := [(1, .int .i64 x1), (4, .int .u8 0), (5, .ptr 0 0)]) (by kernel_rfl) ?_
    refine K.draw (by kernel_rfl) (by kernel_rfl) (by kernel_rfl) (H2 := [.box [.bool x0.Neg_, lsv (encI .u8) 1 x0.D_, .int .i64 x0.E_], .res, .res]) (by kernel_rfl) (n := 1) (by kernel_rfl) ?_
    refine RJ.segD 2 (tr2 := [([0, 1], []), ([0, 1], [])]) (L2 := [(20, .agg [.bool x0.Neg_, lsv (encI .u8) 1 x0.D_, .int .i64 x0.E_]), (19, .agg [.bool x0.Neg_, lsv (encI .u8) 1 x0.D_, .int .i64 x0.E_]), (1, .int .i64 x1), (4, .int .u8 0), (5, .ptr 0 0)]) (H2 := [.box [.bool x0.Neg_, lsv (encI .u8) 1 x0.D_, .int .i64 x0.E_], .res, .res]) (by kernel_rfl) ?_
    obtain ⟨y48, hy49, h50⟩ := bindS h26
    refine RJ.call0 (d := (some 21)) (f := 34) (args := [.agg [.bool x0.Neg_, lsv (encI .u8) 1 x0.D_, .int .i64 x0.E_]]) (v := .int .i64 y48) (tr2 := [([0, 1], []), ([0, 1], []), ([], [2, 3])]) (by kernel_rfl) (by kernel_rfl) (.cons (Le.refl _) .nil) (dec_work__mag_ok hy49) (by kernel_rfl) ?_
    refine RJ.segD 2 (tr2 := [([0, 1], []), ([0, 1], []), ([], [2, 3]), ([], []), ([], [])]) (L2 := [(23, .int .i64 (IntKind.wrap .i64 (y48 - x1))), (22, .int .i64 x1), (21, .int .i64 y48), (20, .agg [.bool x0.Neg_, lsv (encI .u8) 1 x0.D_, .int .i64 x0.E_]), (19, .agg [.bool x0.Neg_, lsv (encI .u8) 1 x0.D_, .int .i64 x0.E_]), (1, .int .i64 x1), (4, .int .u8 0), (5, .ptr 0 0)]) (H2 := [.box [.bool x0.Neg_, lsv (encI .u8) 1 x0.D_, .int .i64 x0.E_], .res, .res]) (by kernel_rfl) ?_
    obtain ⟨y51, hy52, h53⟩ := bindS h50
    refine RJ.call0 (d := (some 24)) (f := 35) (args := [.agg [.bool x0.Neg_, lsv (encI .u8) 1 x0.D_, .int .i64 x0.E_], .int .i64 (IntKind.wrap .i64 (y48 - x1))]) (v := .int .u8 y51) (tr2 := [([0, 1], []), ([0, 1], []), ([], [2, 3]), ([], []), ([], []), ([], [4, 5])]) (by kernel_rfl) (by kernel_rfl) (.cons (Le.refl _) (.cons (Le.refl _) .nil)) (dec_work__figure_ok hy52) (by kernel_rfl) ?_
    refine RJ.segD 1 (tr2 := [([0, 1], []), ([0, 1], []), ([], [2, 3]), ([], []), ([], []), ([], [4, 5]), ([], [])]) (L2 := [(4, .int .u8 y51), (24, .int .u8 y51), (23, .int .i64 (IntKind.wrap .i64 (y48 - x1))), (22, .int .i64 x1), (21, .int .i64 y48), (20, .agg [.bool x0.Neg_, lsv (encI .u8) 1 x0.D_, .int .i64 x0.E_]), (19, .agg [.bool x0.Neg_, lsv (encI .u8) 1 x0.D_, .int .i64 x0.E_]), (1, .int .i64 x1), (4, .int .u8 0), (5, .ptr 0 0)]) (H2 := [.box [.bool x0.Neg_, lsv (encI .u8) 1 x0.D_, .int .i64 x0.E_], .res, .res]) (by kernel_rfl) ?_
    refine RJ.end (by kernel_rfl) ?_
    refine PJ.next ?_
    refine K.ret (by kernel_rfl) ?_
    obtain rfl := Option.some.inj h53
    exact K.ret0 (.inr rfl) hFn hFH hFD (by kernel_rfl) (by kernel_rfl) (by kernel_rfl)

def exerguelaw05_shown  : Option (Bool) :=
  (Option.bind (dec_Norm false ([0, 5, 0] : List Int) 1) fun y1 => (Option.bind (dec_Read ([53, 101, 50] : List UInt8)) fun y4 => (Option.bind (bif (decide (y1.2 = 0)) then (Option.bind (dec_Text y1.1) fun y57 => (bif (y57 == ([53, 101, 50] : List UInt8)) then (Option.bind (dec_Mag y1.1) fun y63 => (bif (decide (y63 = 2)) then (bif (decide (y4.2.2 = 0)) then (bif (decide (y4.2.1 = 0)) then (Option.bind (dec_Same y1.1 y4.1) fun y75 => (bif y75 then (Option.bind (dec_Right y1.1) fun y81 => (bif y81 then (Option.bind (dec_Cmp y1.1 y4.1) fun y87 => (bif (decide (y87 = 0)) then (Option.bind (dec_At y1.1 2) fun y93 => (some (decide (y93 = 5)))) else (some false))) else (some false))) else (some false))) else (some false)) else (some false)) else (some false))) else (some false))) else (some false)) fun (s49 : Bool) => (some s49))))
theorem exerguelaw05_shown_ok  {r : Bool} (h : exerguelaw05_shown = some r) : SC Tryd.prog 10 [] [] (.bool r) [] := by
  refine K.fn (fn := Tryd.f10) (by kernel_rfl) (by kernel_rfl) (by kernel_rfl) (by kernel_rfl) (by kernel_rfl) (fun F hFn hFH hFD => ?_)
  unfold exerguelaw05_shown at h
  refine K.seq (by kernel_rfl) ?_
  refine K.region (by kernel_rfl) ?_
  refine RJ.seg 1 [0] (L2 := [(0, .bool false)]) (H2 := []) (by kernel_rfl) ?_
  refine RJ.end (by kernel_rfl) ?_
  refine PJ.next ?_
  refine K.seq (by kernel_rfl) ?_
  refine K.region (by kernel_rfl) ?_
  refine RJ.seg 1 [0, 7] (L2 := [(0, .bool false), (7, .vc 0)]) (H2 := [vecL (encI .u8) 1 5 ([0, 5, 0] : List Int)]) (by kernel_rfl) ?_
  obtain ⟨y1, hy2, h3⟩ := bindS h
  refine RJ.wk (Wk.freeze 0 (n := ([0, 5, 0] : List Int).length) (k := 1) (e := 5) (cs := ([0, 5, 0] : List Int).flatMap (encI .u8)) (by kernel_rfl)) ?_
  refine RJ.call0 (d := (some 8)) (f := 22) (args := [.bool false, lsv (encI .u8) 1 ([0, 5, 0] : List Int), .int .i64 1]) (v := .tup [.agg [.bool y1.1.Neg_, lsv (encI .u8) 1 y1.1.D_, .int .i64 y1.1.E_], .int .i64 y1.2]) (tr2 := []) (by kernel_rfl) (by kernel_rfl) (.cons (Le.refl _) (.cons (Le.refl _) (.cons (Le.refl _) .nil))) (dec_Norm_ok hy2) (by kernel_rfl) ?_
  refine RJ.seg 6 [0, 1, 2] (L2 := [(0, .bool false), (1, .ptr 1 0), (2, .int .i64 y1.2)]) (H2 := [.gone, .box [.bool y1.1.Neg_, lsv (encI .u8) 1 y1.1.D_, .int .i64 y1.1.E_]]) (by kernel_rfl) ?_
  refine RJ.end (by kernel_rfl) ?_
  refine PJ.next ?_
  refine K.seq (by kernel_rfl) ?_
  refine K.region (by kernel_rfl) ?_
  obtain ⟨y4, hy5, h6⟩ := bindS h3
  refine RJ.call0 (d := (some 12)) (f := 11) (args := [.str ([53, 101, 50] : List UInt8)]) (v := .tup [.agg [.bool y4.1.Neg_, lsv (encI .u8) 1 y4.1.D_, .int .i64 y4.1.E_], .int .i64 y4.2.1, .int .i64 y4.2.2]) (tr2 := []) (by kernel_rfl) (by kernel_rfl) (.cons (Le.refl _) .nil) (dec_Read_ok hy5) (by kernel_rfl) ?_
  refine RJ.seg 8 [0, 1, 2, 3, 4, 5] (L2 := [(0, .bool false), (1, .ptr 1 0), (2, .int .i64 y1.2), (3, .ptr 2 0), (4, .int .i64 y4.2.1), (5, .int .i64 y4.2.2)]) (H2 := [.gone, .box [.bool y1.1.Neg_, lsv (encI .u8) 1 y1.1.D_, .int .i64 y1.1.E_], .box [.bool y4.1.Neg_, lsv (encI .u8) 1 y4.1.D_, .int .i64 y4.1.E_]]) (by kernel_rfl) ?_
  refine RJ.end (by kernel_rfl) ?_
  refine PJ.next ?_
  obtain ⟨s49, hy51, h53⟩ := bindS h6
  refine K.cutN (by kernel_rfl) (fun (s49 : Bool) => ([(0, .bool s49)], [])) s49 ?_ ?_
  · refine K.region (by kernel_rfl) ?_
    refine RJ.seg 3 [0, 1, 3, 4, 5, 18] (L2 := [(0, .bool false), (1, .ptr 1 0), (3, .ptr 2 0), (4, .int .i64 y4.2.1), (5, .int .i64 y4.2.2), (18, .bool (decide (y1.2 = 0)))]) (H2 := [.gone, .box [.bool y1.1.Neg_, lsv (encI .u8) 1 y1.1.D_, .int .i64 y1.1.E_], .box [.bool y4.1.Neg_, lsv (encI .u8) 1 y4.1.D_, .int .i64 y4.1.E_]]) (by kernel_rfl) ?_
    refine RJ.caseB 18 (b := (decide (y1.2 = 0))) (by kernel_rfl) (fun hb54 => ?_) (fun hb54 => ?_)
    · have h55 := condT hb54 hy51
      refine RJ.seg 1 [0, 1, 3, 4, 5, 18, 19] (L2 := [(0, .bool false), (1, .ptr 1 0), (3, .ptr 2 0), (4, .int .i64 y4.2.1), (5, .int .i64 y4.2.2), (18, .bool true), (19, .agg [.bool y1.1.Neg_, lsv (encI .u8) 1 y1.1.D_, .int .i64 y1.1.E_])]) (H2 := [.gone, .box [.bool y1.1.Neg_, lsv (encI .u8) 1 y1.1.D_, .int .i64 y1.1.E_], .box [.bool y4.1.Neg_, lsv (encI .u8) 1 y4.1.D_, .int .i64 y4.1.E_]]) (by kernel_rfl) ?_
      obtain ⟨y57, hy58, h59⟩ := bindS h55
      refine RJ.call0 (d := (some 20)) (f := 15) (args := [.agg [.bool y1.1.Neg_, lsv (encI .u8) 1 y1.1.D_, .int .i64 y1.1.E_]]) (v := .str y57) (tr2 := []) (by kernel_rfl) (by kernel_rfl) (.cons (Le.refl _) .nil) (dec_Text_ok hy58) (by kernel_rfl) ?_
      refine RJ.seg 3 [0, 1, 3, 4, 5, 23] (L2 := [(0, .bool false), (1, .ptr 1 0), (3, .ptr 2 0), (4, .int .i64 y4.2.1), (5, .int .i64 y4.2.2), (23, .bool (y57 == ([53, 101, 50] : List UInt8)))]) (H2 := [.gone, .box [.bool y1.1.Neg_, lsv (encI .u8) 1 y1.1.D_, .int .i64 y1.1.E_], .box [.bool y4.1.Neg_, lsv (encI .u8) 1 y4.1.D_, .int .i64 y4.1.E_]]) (by kernel_rfl) ?_
      refine RJ.caseB 23 (b := (y57 == ([53, 101, 50] : List UInt8))) (by kernel_rfl) (fun hb60 => ?_) (fun hb60 => ?_)
      · have h61 := condT hb60 h59
        refine RJ.seg 1 [0, 1, 3, 4, 5, 23, 24] (L2 := [(0, .bool false), (1, .ptr 1 0), (3, .ptr 2 0), (4, .int .i64 y4.2.1), (5, .int .i64 y4.2.2), (23, .bool true), (24, .agg [.bool y1.1.Neg_, lsv (encI .u8) 1 y1.1.D_, .int .i64 y1.1.E_])]) (H2 := [.gone, .box [.bool y1.1.Neg_, lsv (encI .u8) 1 y1.1.D_, .int .i64 y1.1.E_], .box [.bool y4.1.Neg_, lsv (encI .u8) 1 y4.1.D_, .int .i64 y4.1.E_]]) (by kernel_rfl) ?_
        obtain ⟨y63, hy64, h65⟩ := bindS h61
        refine RJ.call0 (d := (some 25)) (f := 20) (args := [.agg [.bool y1.1.Neg_, lsv (encI .u8) 1 y1.1.D_, .int .i64 y1.1.E_]]) (v := .int .i64 y63) (tr2 := []) (by kernel_rfl) (by kernel_rfl) (.cons (Le.refl _) .nil) (dec_Mag_ok hy64) (by kernel_rfl) ?_
        refine RJ.seg 3 [0, 1, 3, 4, 5, 28] (L2 := [(0, .bool false), (1, .ptr 1 0), (3, .ptr 2 0), (4, .int .i64 y4.2.1), (5, .int .i64 y4.2.2), (28, .bool (decide (y63 = 2)))]) (H2 := [.gone, .box [.bool y1.1.Neg_, lsv (encI .u8) 1 y1.1.D_, .int .i64 y1.1.E_], .box [.bool y4.1.Neg_, lsv (encI .u8) 1 y4.1.D_, .int .i64 y4.1.E_]]) (by kernel_rfl) ?_
        refine RJ.caseB 28 (b := (decide (y63 = 2))) (by kernel_rfl) (fun hb66 => ?_) (fun hb66 => ?_)
        · have h67 := condT hb66 h65
          refine RJ.seg 4 [0, 1, 3, 4, 32] (L2 := [(0, .bool false), (1, .ptr 1 0), (3, .ptr 2 0), (4, .int .i64 y4.2.1), (32, .bool (decide (y4.2.2 = 0)))]) (H2 := [.gone, .box [.bool y1.1.Neg_, lsv (encI .u8) 1 y1.1.D_, .int .i64 y1.1.E_], .box [.bool y4.1.Neg_, lsv (encI .u8) 1 y4.1.D_, .int .i64 y4.1.E_]]) (by kernel_rfl) ?_
          refine RJ.caseB 32 (b := (decide (y4.2.2 = 0))) (by kernel_rfl) (fun hb69 => ?_) (fun hb69 => ?_)
          · have h70 := condT hb69 h67
            refine RJ.seg 4 [0, 1, 3, 36] (L2 := [(0, .bool false), (1, .ptr 1 0), (3, .ptr 2 0), (36, .bool (decide (y4.2.1 = 0)))]) (H2 := [.gone, .box [.bool y1.1.Neg_, lsv (encI .u8) 1 y1.1.D_, .int .i64 y1.1.E_], .box [.bool y4.1.Neg_, lsv (encI .u8) 1 y4.1.D_, .int .i64 y4.1.E_]]) (by kernel_rfl) ?_
            refine RJ.caseB 36 (b := (decide (y4.2.1 = 0))) (by kernel_rfl) (fun hb72 => ?_) (fun hb72 => ?_)
            · have h73 := condT hb72 h70
              refine RJ.seg 2 [0, 1, 3, 36, 37, 38] (L2 := [(0, .bool false), (1, .ptr 1 0), (3, .ptr 2 0), (36, .bool true), (37, .agg [.bool y1.1.Neg_, lsv (encI .u8) 1 y1.1.D_, .int .i64 y1.1.E_]), (38, .agg [.bool y4.1.Neg_, lsv (encI .u8) 1 y4.1.D_, .int .i64 y4.1.E_])]) (H2 := [.gone, .box [.bool y1.1.Neg_, lsv (encI .u8) 1 y1.1.D_, .int .i64 y1.1.E_], .box [.bool y4.1.Neg_, lsv (encI .u8) 1 y4.1.D_, .int .i64 y4.1.E_]]) (by kernel_rfl) ?_
              obtain ⟨y75, hy76, h77⟩ := bindS h73
              refine RJ.call0 (d := (some 39)) (f := 23) (args := [.agg [.bool y1.1.Neg_, lsv (encI .u8) 1 y1.1.D_, .int .i64 y1.1.E_], .agg [.bool y4.1.Neg_, lsv (encI .u8) 1 y4.1.D_, .int .i64 y4.1.E_]]) (v := .bool y75) (tr2 := []) (by kernel_rfl) (by kernel_rfl) (.cons (Le.refl _) (.cons (Le.refl _) .nil)) (dec_Same_ok hy76) (by kernel_rfl) ?_
              refine RJ.seg 2 [0, 1, 3, 41] (L2 := [(0, .bool false), (1, .ptr 1 0), (3, .ptr 2 0), (41, .bool y75)]) (H2 := [.gone, .box [.bool y1.1.Neg_, lsv (encI .u8) 1 y1.1.D_, .int .i64 y1.1.E_], .box [.bool y4.1.Neg_, lsv (encI .u8) 1 y4.1.D_, .int .i64 y4.1.E_]]) (by kernel_rfl) ?_
              refine RJ.caseB 41 (b := y75) (by kernel_rfl) (fun hb78 => ?_) (fun hb78 => ?_)
              · have h79 := condT hb78 h77
                refine RJ.seg 1 [0, 1, 3, 41, 42] (L2 := [(0, .bool false), (1, .ptr 1 0), (3, .ptr 2 0), (41, .bool true), (42, .agg [.bool y1.1.Neg_, lsv (encI .u8) 1 y1.1.D_, .int .i64 y1.1.E_])]) (H2 := [.gone, .box [.bool y1.1.Neg_, lsv (encI .u8) 1 y1.1.D_, .int .i64 y1.1.E_], .box [.bool y4.1.Neg_, lsv (encI .u8) 1 y4.1.D_, .int .i64 y4.1.E_]]) (by kernel_rfl) ?_
                obtain ⟨y81, hy82, h83⟩ := bindS h79
                refine RJ.call0 (d := (some 43)) (f := 24) (args := [.agg [.bool y1.1.Neg_, lsv (encI .u8) 1 y1.1.D_, .int .i64 y1.1.E_]]) (v := .bool y81) (tr2 := []) (by kernel_rfl) (by kernel_rfl) (.cons (Le.refl _) .nil) (dec_Right_ok hy82) (by kernel_rfl) ?_
                refine RJ.seg 2 [0, 1, 3, 45] (L2 := [(0, .bool false), (1, .ptr 1 0), (3, .ptr 2 0), (45, .bool y81)]) (H2 := [.gone, .box [.bool y1.1.Neg_, lsv (encI .u8) 1 y1.1.D_, .int .i64 y1.1.E_], .box [.bool y4.1.Neg_, lsv (encI .u8) 1 y4.1.D_, .int .i64 y4.1.E_]]) (by kernel_rfl) ?_
                refine RJ.caseB 45 (b := y81) (by kernel_rfl) (fun hb84 => ?_) (fun hb84 => ?_)
                · have h85 := condT hb84 h83
                  refine RJ.seg 2 [0, 1, 45, 46, 47] (L2 := [(0, .bool false), (1, .ptr 1 0), (45, .bool true), (46, .agg [.bool y1.1.Neg_, lsv (encI .u8) 1 y1.1.D_, .int .i64 y1.1.E_]), (47, .agg [.bool y4.1.Neg_, lsv (encI .u8) 1 y4.1.D_, .int .i64 y4.1.E_])]) (H2 := [.gone, .box [.bool y1.1.Neg_, lsv (encI .u8) 1 y1.1.D_, .int .i64 y1.1.E_], .box [.bool y4.1.Neg_, lsv (encI .u8) 1 y4.1.D_, .int .i64 y4.1.E_]]) (by kernel_rfl) ?_
                  obtain ⟨y87, hy88, h89⟩ := bindS h85
                  refine RJ.call0 (d := (some 48)) (f := 17) (args := [.agg [.bool y1.1.Neg_, lsv (encI .u8) 1 y1.1.D_, .int .i64 y1.1.E_], .agg [.bool y4.1.Neg_, lsv (encI .u8) 1 y4.1.D_, .int .i64 y4.1.E_]]) (v := .int .i64 y87) (tr2 := []) (by kernel_rfl) (by kernel_rfl) (.cons (Le.refl _) (.cons (Le.refl _) .nil)) (dec_Cmp_ok hy88) (by kernel_rfl) ?_
                  refine RJ.seg 3 [0, 1, 51] (L2 := [(0, .bool false), (1, .ptr 1 0), (51, .bool (decide (y87 = 0)))]) (H2 := [.gone, .box [.bool y1.1.Neg_, lsv (encI .u8) 1 y1.1.D_, .int .i64 y1.1.E_], .box [.bool y4.1.Neg_, lsv (encI .u8) 1 y4.1.D_, .int .i64 y4.1.E_]]) (by kernel_rfl) ?_
                  refine RJ.caseB 51 (b := (decide (y87 = 0))) (by kernel_rfl) (fun hb90 => ?_) (fun hb90 => ?_)
                  · have h91 := condT hb90 h89
                    refine RJ.seg 1 [0, 51, 52] (L2 := [(0, .bool false), (51, .bool true), (52, .agg [.bool y1.1.Neg_, lsv (encI .u8) 1 y1.1.D_, .int .i64 y1.1.E_])]) (H2 := [.gone, .box [.bool y1.1.Neg_, lsv (encI .u8) 1 y1.1.D_, .int .i64 y1.1.E_], .box [.bool y4.1.Neg_, lsv (encI .u8) 1 y4.1.D_, .int .i64 y4.1.E_]]) (by kernel_rfl) ?_
                    obtain ⟨y93, hy94, h95⟩ := bindS h91
                    refine RJ.call0 (d := (some 53)) (f := 21) (args := [.agg [.bool y1.1.Neg_, lsv (encI .u8) 1 y1.1.D_, .int .i64 y1.1.E_], .int .i64 2]) (v := .int .u8 y93) (tr2 := []) (by kernel_rfl) (by kernel_rfl) (.cons (Le.refl _) (.cons (Le.refl _) .nil)) (dec_At_ok hy94) (by kernel_rfl) ?_
                    refine RJ.seg 3 [0] (L2 := [(0, .bool (decide (y93 = 5)))]) (H2 := [.gone, .box [.bool y1.1.Neg_, lsv (encI .u8) 1 y1.1.D_, .int .i64 y1.1.E_], .box [.bool y4.1.Neg_, lsv (encI .u8) 1 y4.1.D_, .int .i64 y4.1.E_]]) (by kernel_rfl) ?_
                    refine RJ.end (by kernel_rfl) ?_
                    obtain rfl := Option.some.inj h95
                    refine PJ.wk (Wk.sel (L2 := [(0, .bool (decide (y93 = 5)))]) (H2 := []) 0 (by rw [hFH]; rfl) hFD [] (by kernel_rfl) (by kernel_rfl) (by decide) (by kernel_rfl) (by kernel_rfl) (by kernel_rfl) (by kernel_rfl)) ?_
                    exact PJ.cutN [0] (by kernel_rfl) (by kernel_rfl)
                  · have h92 := condF hb90 h89
                    refine RJ.seg 5 [0] (L2 := [(0, .bool false)]) (H2 := [.gone, .box [.bool y1.1.Neg_, lsv (encI .u8) 1 y1.1.D_, .int .i64 y1.1.E_], .box [.bool y4.1.Neg_, lsv (encI .u8) 1 y4.1.D_, .int .i64 y4.1.E_]]) (by kernel_rfl) ?_
                    refine RJ.end (by kernel_rfl) ?_
                    obtain rfl := Option.some.inj h92
                    refine PJ.wk (Wk.sel (L2 := [(0, .bool false)]) (H2 := []) 0 (by rw [hFH]; rfl) hFD [] (by kernel_rfl) (by kernel_rfl) (by decide) (by kernel_rfl) (by kernel_rfl) (by kernel_rfl) (by kernel_rfl)) ?_
                    exact PJ.cutN [0] (by kernel_rfl) (by kernel_rfl)
                · have h86 := condF hb84 h83
                  refine RJ.seg 11 [0] (L2 := [(0, .bool false)]) (H2 := [.gone, .box [.bool y1.1.Neg_, lsv (encI .u8) 1 y1.1.D_, .int .i64 y1.1.E_], .box [.bool y4.1.Neg_, lsv (encI .u8) 1 y4.1.D_, .int .i64 y4.1.E_]]) (by kernel_rfl) ?_
                  refine RJ.end (by kernel_rfl) ?_
                  obtain rfl := Option.some.inj h86
                  refine PJ.wk (Wk.sel (L2 := [(0, .bool false)]) (H2 := []) 0 (by rw [hFH]; rfl) hFD [] (by kernel_rfl) (by kernel_rfl) (by decide) (by kernel_rfl) (by kernel_rfl) (by kernel_rfl) (by kernel_rfl)) ?_
                  exact PJ.cutN [0] (by kernel_rfl) (by kernel_rfl)
              · have h80 := condF hb78 h77
                refine RJ.seg 15 [0] (L2 := [(0, .bool false)]) (H2 := [.gone, .box [.bool y1.1.Neg_, lsv (encI .u8) 1 y1.1.D_, .int .i64 y1.1.E_], .box [.bool y4.1.Neg_, lsv (encI .u8) 1 y4.1.D_, .int .i64 y4.1.E_]]) (by kernel_rfl) ?_
                refine RJ.end (by kernel_rfl) ?_
                obtain rfl := Option.some.inj h80
                refine PJ.wk (Wk.sel (L2 := [(0, .bool false)]) (H2 := []) 0 (by rw [hFH]; rfl) hFD [] (by kernel_rfl) (by kernel_rfl) (by decide) (by kernel_rfl) (by kernel_rfl) (by kernel_rfl) (by kernel_rfl)) ?_
                exact PJ.cutN [0] (by kernel_rfl) (by kernel_rfl)
            · have h74 := condF hb72 h70
              refine RJ.seg 20 [0] (L2 := [(0, .bool false)]) (H2 := [.gone, .box [.bool y1.1.Neg_, lsv (encI .u8) 1 y1.1.D_, .int .i64 y1.1.E_], .box [.bool y4.1.Neg_, lsv (encI .u8) 1 y4.1.D_, .int .i64 y4.1.E_]]) (by kernel_rfl) ?_
              refine RJ.end (by kernel_rfl) ?_
              obtain rfl := Option.some.inj h74
              refine PJ.wk (Wk.sel (L2 := [(0, .bool false)]) (H2 := []) 0 (by rw [hFH]; rfl) hFD [] (by kernel_rfl) (by kernel_rfl) (by decide) (by kernel_rfl) (by kernel_rfl) (by kernel_rfl) (by kernel_rfl)) ?_
              exact PJ.cutN [0] (by kernel_rfl) (by kernel_rfl)
          · have h71 := condF hb69 h67
            refine RJ.seg 24 [0] (L2 := [(0, .bool false)]) (H2 := [.gone, .box [.bool y1.1.Neg_, lsv (encI .u8) 1 y1.1.D_, .int .i64 y1.1.E_], .box [.bool y4.1.Neg_, lsv (encI .u8) 1 y4.1.D_, .int .i64 y4.1.E_]]) (by kernel_rfl) ?_
            refine RJ.end (by kernel_rfl) ?_
            obtain rfl := Option.some.inj h71
            refine PJ.wk (Wk.sel (L2 := [(0, .bool false)]) (H2 := []) 0 (by rw [hFH]; rfl) hFD [] (by kernel_rfl) (by kernel_rfl) (by decide) (by kernel_rfl) (by kernel_rfl) (by kernel_rfl) (by kernel_rfl)) ?_
            exact PJ.cutN [0] (by kernel_rfl) (by kernel_rfl)
        · have h68 := condF hb66 h65
          refine RJ.seg 28 [0] (L2 := [(0, .bool false)]) (H2 := [.gone, .box [.bool y1.1.Neg_, lsv (encI .u8) 1 y1.1.D_, .int .i64 y1.1.E_], .box [.bool y4.1.Neg_, lsv (encI .u8) 1 y4.1.D_, .int .i64 y4.1.E_]]) (by kernel_rfl) ?_
          refine RJ.end (by kernel_rfl) ?_
          obtain rfl := Option.some.inj h68
          refine PJ.wk (Wk.sel (L2 := [(0, .bool false)]) (H2 := []) 0 (by rw [hFH]; rfl) hFD [] (by kernel_rfl) (by kernel_rfl) (by decide) (by kernel_rfl) (by kernel_rfl) (by kernel_rfl) (by kernel_rfl)) ?_
          exact PJ.cutN [0] (by kernel_rfl) (by kernel_rfl)
      · have h62 := condF hb60 h59
        refine RJ.seg 33 [0] (L2 := [(0, .bool false)]) (H2 := [.gone, .box [.bool y1.1.Neg_, lsv (encI .u8) 1 y1.1.D_, .int .i64 y1.1.E_], .box [.bool y4.1.Neg_, lsv (encI .u8) 1 y4.1.D_, .int .i64 y4.1.E_]]) (by kernel_rfl) ?_
        refine RJ.end (by kernel_rfl) ?_
        obtain rfl := Option.some.inj h62
        refine PJ.wk (Wk.sel (L2 := [(0, .bool false)]) (H2 := []) 0 (by rw [hFH]; rfl) hFD [] (by kernel_rfl) (by kernel_rfl) (by decide) (by kernel_rfl) (by kernel_rfl) (by kernel_rfl) (by kernel_rfl)) ?_
        exact PJ.cutN [0] (by kernel_rfl) (by kernel_rfl)
    · have h56 := condF hb54 hy51
      refine RJ.seg 38 [0] (L2 := [(0, .bool false)]) (H2 := [.gone, .box [.bool y1.1.Neg_, lsv (encI .u8) 1 y1.1.D_, .int .i64 y1.1.E_], .box [.bool y4.1.Neg_, lsv (encI .u8) 1 y4.1.D_, .int .i64 y4.1.E_]]) (by kernel_rfl) ?_
      refine RJ.end (by kernel_rfl) ?_
      obtain rfl := Option.some.inj h56
      refine PJ.wk (Wk.sel (L2 := [(0, .bool false)]) (H2 := []) 0 (by rw [hFH]; rfl) hFD [] (by kernel_rfl) (by kernel_rfl) (by decide) (by kernel_rfl) (by kernel_rfl) (by kernel_rfl) (by kernel_rfl)) ?_
      exact PJ.cutN [0] (by kernel_rfl) (by kernel_rfl)
  · refine K.ret (by kernel_rfl) ?_
    obtain rfl := Option.some.inj h53
    exact K.ret0 (.inr rfl) hFn hFH hFD (by kernel_rfl) (by kernel_rfl) (by kernel_rfl)

def exergueref01_Row (x0 : List Int) (x1 : List Int) : Option (Bool) :=
  (bif (decide (¬ (x0.length : Int) = (x1.length : Int))) then (some false) else (Option.bind (loopN (fun (s51 : Int) => (bif (decide (s51 < (x0.length : Int))) then (bif inR s51 x0.length then (bif inR s51 x1.length then (bif (decide (¬ (nth x0 s51) = (nth x1 s51))) then (some (.inr (.inr false))) else (some (.inl (IntKind.wrap .i64 (s51 + 1))))) else none) else none) else (some (.inr (.inl ()))))) big 0) (joinX fun (s46 : Unit) => (some true))))
theorem exergueref01_Row_ok {x0 : List Int} {x1 : List Int} {r : Bool} (h : exergueref01_Row x0 x1 = some r) : SC Tryd.prog 19 [lsv (encI .u8) 1 x0, lsv (encI .u8) 1 x1] [] (.bool r) [] := by
  refine K.fn (fn := Tryd.f19) (by kernel_rfl) (by kernel_rfl) (by kernel_rfl) (by kernel_rfl) (by kernel_rfl) (fun F hFn hFH hFD => ?_)
  unfold exergueref01_Row at h
  refine K.seq (by kernel_rfl) ?_
  refine K.region (by kernel_rfl) ?_
  refine RJ.seg 1 [0, 1, 4] (L2 := [(0, lsv (encI .u8) 1 x0), (1, lsv (encI .u8) 1 x1), (4, .bool false)]) (H2 := []) (by kernel_rfl) ?_
  refine RJ.end (by kernel_rfl) ?_
  refine PJ.next ?_
  refine K.seq (by kernel_rfl) ?_
  refine K.seq (by kernel_rfl) ?_
  refine K.region (by kernel_rfl) ?_
  refine RJ.seg 5 [0, 1, 4, 10] (L2 := [(0, lsv (encI .u8) 1 x0), (1, lsv (encI .u8) 1 x1), (4, .bool false), (10, .bool ((decide (¬ (x0.length : Int) = (x1.length : Int)))))]) (H2 := []) (by kernel_rfl) ?_
  refine RJ.end (by kernel_rfl) ?_
  refine PJ.next ?_
  refine J.caseB 10 (b := (decide (¬ (x0.length : Int) = (x1.length : Int)))) (by kernel_rfl) (fun hb1 => ?_) (fun hb1 => ?_)
  · have h2 := condT hb1 h
    refine K.condT (by kernel_rfl) ?_
    refine K.seq (by kernel_rfl) ?_
    refine K.region (by kernel_rfl) ?_
    refine RJ.seg 1 [0, 1, 4] (L2 := [(0, lsv (encI .u8) 1 x0), (1, lsv (encI .u8) 1 x1), (4, .bool false)]) (H2 := []) (by kernel_rfl) ?_
    refine RJ.end (by kernel_rfl) ?_
    refine PJ.next ?_
    refine K.ret (by kernel_rfl) ?_
    refine PJ.passRet ?_
    obtain rfl := Option.some.inj h2
    exact K.ret0 (.inr rfl) hFn hFH hFD (by kernel_rfl) (by kernel_rfl) (by kernel_rfl)
  · have h3 := condF hb1 h
    refine K.condF (by kernel_rfl) ?_
    refine K.skip (by kernel_rfl) ?_
    refine PJ.next ?_
    obtain ⟨y47, hy48, h49⟩ := bindS h3
    refine K.cutX (by kernel_rfl) (fun (s46 : Unit) => ([(4, .bool false)], [])) y47 ?_ (fun s46 hs => ?_)
    · refine K.seq (by kernel_rfl) ?_
      refine K.region (by kernel_rfl) ?_
      refine RJ.seg 1 [0, 1, 4, 5] (L2 := [(0, lsv (encI .u8) 1 x0), (1, lsv (encI .u8) 1 x1), (4, .bool false), (5, .int .i64 0)]) (H2 := []) (by kernel_rfl) ?_
      refine RJ.end (by kernel_rfl) ?_
      refine PJ.next ?_
      refine K.block 0 (by kernel_rfl) ?_
      refine K.loop (by kernel_rfl) (fun (s51 : Int) => ([(0, lsv (encI .u8) 1 x0), (1, lsv (encI .u8) 1 x1), (4, .bool false), (5, .int .i64 s51)], [])) hy48 [0, 1, 4, 5] (by kernel_rfl) (by kernel_rfl) (fun s51 x79 hs78 => ?_)
      refine K.seq (by kernel_rfl) ?_
      refine K.seq (by kernel_rfl) ?_
      refine K.region (by kernel_rfl) ?_
      refine RJ.seg 4 [0, 1, 4, 5, 14] (L2 := [(0, lsv (encI .u8) 1 x0), (1, lsv (encI .u8) 1 x1), (4, .bool false), (5, .int .i64 s51), (14, .bool ((decide (s51 < (x0.length : Int)))))]) (H2 := []) (by kernel_rfl) ?_
      refine RJ.end (by kernel_rfl) ?_
      refine PJ.next ?_
      refine J.caseB 14 (b := (decide (s51 < (x0.length : Int)))) (by kernel_rfl) (fun hb80 => ?_) (fun hb80 => ?_)
      · have h81 := condT hb80 hs78
        refine K.condT (by kernel_rfl) ?_
        refine K.skip (by kernel_rfl) ?_
        refine PJ.next ?_
        refine K.seq (by kernel_rfl) ?_
        refine K.block 1 (by kernel_rfl) ?_
        refine K.seq (by kernel_rfl) ?_
        refine J.keep [0, 1, 4, 5] (L2 := [(0, lsv (encI .u8) 1 x0), (1, lsv (encI .u8) 1 x1), (4, .bool false), (5, .int .i64 s51)]) (by kernel_rfl) ?_
        refine K.draw (by kernel_rfl) (by kernel_rfl) (by kernel_rfl) (H2 := []) (by kernel_rfl) (n := 0) (by kernel_rfl) ?_
        refine RJ.segD 2 (tr2 := [([], []), ([], [])]) (L2 := [(18, .int .i64 s51), (17, lsv (encI .u8) 1 x0), (0, lsv (encI .u8) 1 x0), (1, lsv (encI .u8) 1 x1), (4, .bool false), (5, .int .i64 s51)]) (H2 := []) (by kernel_rfl) ?_
        obtain ⟨hm, h83⟩ := asrt h81
        refine RJ.rel (d := (some 19)) (ef := ⟨.ep (((x0.flatMap (encI .u8)).drop ((s51 : Int).toNat * 1)).take 1), [], []⟩) (ef' := ⟨.ep ((encI .u8) (nth x0 s51)), [], []⟩) (c := inR s51 x0.length) (tr2 := [([], []), ([], []), ([], [])]) (H2 := []) (by kernel_rfl) hm (fun hc => N.idx (encI_len .u8) hc) (by kernel_rfl) ?_
        refine RJ.segD 3 (tr2 := [([], []), ([], []), ([], []), ([], []), ([], []), ([], [])]) (L2 := [(22, .int .i64 s51), (21, lsv (encI .u8) 1 x1), (20, .int .u8 (nth x0 s51)), (19, .ep [.int .u8 (nth x0 s51)]), (18, .int .i64 s51), (17, lsv (encI .u8) 1 x0), (0, lsv (encI .u8) 1 x0), (1, lsv (encI .u8) 1 x1), (4, .bool false), (5, .int .i64 s51)]) (H2 := []) (by kernel_rfl) ?_
        obtain ⟨hm, h84⟩ := asrt h83
        refine RJ.rel (d := (some 23)) (ef := ⟨.ep (((x1.flatMap (encI .u8)).drop ((s51 : Int).toNat * 1)).take 1), [], []⟩) (ef' := ⟨.ep ((encI .u8) (nth x1 s51)), [], []⟩) (c := inR s51 x1.length) (tr2 := [([], []), ([], []), ([], []), ([], []), ([], []), ([], []), ([], [])]) (H2 := []) (by kernel_rfl) hm (fun hc => N.idx (encI_len .u8) hc) (by kernel_rfl) ?_
        refine RJ.segD 2 (tr2 := [([], []), ([], []), ([], []), ([], []), ([], []), ([], []), ([], []), ([], []), ([], [])]) (L2 := [(25, .bool ((decide (¬ (nth x0 s51) = (nth x1 s51))))), (24, .int .u8 (nth x1 s51)), (23, .ep [.int .u8 (nth x1 s51)]), (22, .int .i64 s51), (21, lsv (encI .u8) 1 x1), (20, .int .u8 (nth x0 s51)), (19, .ep [.int .u8 (nth x0 s51)]), (18, .int .i64 s51), (17, lsv (encI .u8) 1 x0), (0, lsv (encI .u8) 1 x0), (1, lsv (encI .u8) 1 x1), (4, .bool false), (5, .int .i64 s51)]) (H2 := []) (by kernel_rfl) ?_
        refine RJ.end (by kernel_rfl) ?_
        refine PJ.next ?_
        refine J.caseB 25 (b := (decide (¬ (nth x0 s51) = (nth x1 s51)))) (by kernel_rfl) (fun hb85 => ?_) (fun hb85 => ?_)
        · have h86 := condT hb85 h84
          refine K.condT (by kernel_rfl) ?_
          refine K.seq (by kernel_rfl) ?_
          refine K.region (by kernel_rfl) ?_
          refine RJ.seg 1 [0, 1, 4, 5] (L2 := [(0, lsv (encI .u8) 1 x0), (1, lsv (encI .u8) 1 x1), (4, .bool false), (5, .int .i64 s51)]) (H2 := []) (by kernel_rfl) ?_
          refine RJ.end (by kernel_rfl) ?_
          refine PJ.next ?_
          refine K.ret (by kernel_rfl) ?_
          refine PJ.blockRet ?_
          refine PJ.passRet ?_
          obtain rfl := Option.some.inj h86
          refine PJ.loopOut (fun e => nomatch e) (fun he90 => ?_)
          have h88 := congrArg some he90
          refine PJ.blockRet ?_
          obtain rfl := Option.some.inj h88
          have h89 := joinX_inr h49
          refine PJ.cutXr (fun e => nomatch e) ?_
          obtain rfl := Option.some.inj h89
          exact K.ret0 (.inr rfl) hFn hFH hFD (by kernel_rfl) (by kernel_rfl) (by kernel_rfl)
        · have h87 := condF hb85 h84
          refine K.condF (by kernel_rfl) ?_
          refine K.skip (by kernel_rfl) ?_
          refine PJ.blockNormal ?_
          refine PJ.next ?_
          refine K.region (by kernel_rfl) ?_
          refine RJ.seg 3 [0, 1, 4, 5] (L2 := [(0, lsv (encI .u8) 1 x0), (1, lsv (encI .u8) 1 x1), (4, .bool false), (5, .int .i64 (IntKind.wrap .i64 (s51 + 1)))]) (H2 := []) (by kernel_rfl) ?_
          refine RJ.end (by kernel_rfl) ?_
          obtain rfl := Option.some.inj h87
          exact PJ.loopNext [0, 1, 4, 5] (by kernel_rfl) (by kernel_rfl)
      · have h82 := condF hb80 hs78
        refine K.condF (by kernel_rfl) ?_
        refine K.exit 0 (by kernel_rfl) ?_
        refine PJ.passExit ?_
        obtain rfl := Option.some.inj h82
        refine PJ.loopOut (fun e => nomatch e) (fun he92 => ?_)
        have h91 := congrArg some he92
        refine PJ.blockOut ?_
        obtain rfl := Option.some.inj h91
        exact PJ.cutXl [4] (by kernel_rfl) (by kernel_rfl)
    · subst hs
      have h50 := joinX_inl h49
      refine K.seq (by kernel_rfl) ?_
      refine K.region (by kernel_rfl) ?_
      refine RJ.seg 1 [4] (L2 := [(4, .bool true)]) (H2 := []) (by kernel_rfl) ?_
      refine RJ.end (by kernel_rfl) ?_
      refine PJ.next ?_
      refine K.ret (by kernel_rfl) ?_
      obtain rfl := Option.some.inj h50
      exact K.ret0 (.inr rfl) hFn hFH hFD (by kernel_rfl) (by kernel_rfl) (by kernel_rfl)

def exergueref05_Same (x0 : St23) (x1 : St23) : Option (Bool) :=
  (Option.bind (exergueref01_Row x0.D_ x1.D_) fun y1 => (Option.bind (bif y1 then (bif (x0.Neg_ == x1.Neg_) then (some (decide (x0.E_ = x1.E_))) else (some false)) else (some false)) fun (s10 : Bool) => (some s10)))
theorem exergueref05_Same_ok {x0 : St23} {x1 : St23} {r : Bool} (h : exergueref05_Same x0 x1 = some r) : SC Tryd.prog 13 [.agg [.bool x0.Neg_, lsv (encI .u8) 1 x0.D_, .int .i64 x0.E_], .agg [.bool x1.Neg_, lsv (encI .u8) 1 x1.D_, .int .i64 x1.E_]] [] (.bool r) [] := by
  refine K.fn (fn := Tryd.f13) (by kernel_rfl) (by kernel_rfl) (by kernel_rfl) (by kernel_rfl) (by kernel_rfl) (fun F hFn hFH hFD => ?_)
  unfold exergueref05_Same at h
  refine K.seq (by kernel_rfl) ?_
  refine K.region (by kernel_rfl) ?_
  refine RJ.seg 3 [2, 3, 4] (L2 := [(2, .ptr 0 0), (3, .ptr 1 0), (4, .bool false)]) (H2 := [.box [.bool x0.Neg_, lsv (encI .u8) 1 x0.D_, .int .i64 x0.E_], .box [.bool x1.Neg_, lsv (encI .u8) 1 x1.D_, .int .i64 x1.E_]]) (by kernel_rfl) ?_
  refine RJ.end (by kernel_rfl) ?_
  refine PJ.next ?_
  refine K.seq (by kernel_rfl) ?_
  refine K.region (by kernel_rfl) ?_
  refine RJ.seg 4 [2, 3, 4, 7, 9] (L2 := [(2, .ptr 0 0), (3, .ptr 1 0), (4, .bool false), (7, lsv (encI .u8) 1 x0.D_), (9, lsv (encI .u8) 1 x1.D_)]) (H2 := [.box [.bool x0.Neg_, lsv (encI .u8) 1 x0.D_, .int .i64 x0.E_], .box [.bool x1.Neg_, lsv (encI .u8) 1 x1.D_, .int .i64 x1.E_]]) (by kernel_rfl) ?_
  obtain ⟨y1, hy2, h3⟩ := bindS h
  refine RJ.call0 (d := (some 10)) (f := 19) (args := [lsv (encI .u8) 1 x0.D_, lsv (encI .u8) 1 x1.D_]) (v := .bool y1) (tr2 := []) (by kernel_rfl) (by kernel_rfl) (.cons (Le.refl _) (.cons (Le.refl _) .nil)) (exergueref01_Row_ok hy2) (by kernel_rfl) ?_
  refine RJ.seg 1 [2, 3, 4, 5] (L2 := [(2, .ptr 0 0), (3, .ptr 1 0), (4, .bool false), (5, .bool y1)]) (H2 := [.box [.bool x0.Neg_, lsv (encI .u8) 1 x0.D_, .int .i64 x0.E_], .box [.bool x1.Neg_, lsv (encI .u8) 1 x1.D_, .int .i64 x1.E_]]) (by kernel_rfl) ?_
  refine RJ.end (by kernel_rfl) ?_
  refine PJ.next ?_
  obtain ⟨s10, hy12, h14⟩ := bindS h3
  refine K.cutN (by kernel_rfl) (fun (s10 : Bool) => ([(4, .bool s10)], [])) s10 ?_ ?_
  · refine K.region (by kernel_rfl) ?_
    refine RJ.seg 2 [2, 3, 4, 12] (L2 := [(2, .ptr 0 0), (3, .ptr 1 0), (4, .bool false), (12, .bool y1)]) (H2 := [.box [.bool x0.Neg_, lsv (encI .u8) 1 x0.D_, .int .i64 x0.E_], .box [.bool x1.Neg_, lsv (encI .u8) 1 x1.D_, .int .i64 x1.E_]]) (by kernel_rfl) ?_
    refine RJ.caseB 12 (b := y1) (by kernel_rfl) (fun hb15 => ?_) (fun hb15 => ?_)
    · have h16 := condT hb15 hy12
      refine RJ.seg 7 [2, 3, 4, 19] (L2 := [(2, .ptr 0 0), (3, .ptr 1 0), (4, .bool false), (19, .bool (x0.Neg_ == x1.Neg_))]) (H2 := [.box [.bool x0.Neg_, lsv (encI .u8) 1 x0.D_, .int .i64 x0.E_], .box [.bool x1.Neg_, lsv (encI .u8) 1 x1.D_, .int .i64 x1.E_]]) (by kernel_rfl) ?_
      refine RJ.caseB 19 (b := (x0.Neg_ == x1.Neg_)) (by kernel_rfl) (fun hb18 => ?_) (fun hb18 => ?_)
      · have h19 := condT hb18 h16
        refine RJ.seg 7 [4] (L2 := [(4, .bool (decide (x0.E_ = x1.E_)))]) (H2 := [.box [.bool x0.Neg_, lsv (encI .u8) 1 x0.D_, .int .i64 x0.E_], .box [.bool x1.Neg_, lsv (encI .u8) 1 x1.D_, .int .i64 x1.E_]]) (by kernel_rfl) ?_
        refine RJ.end (by kernel_rfl) ?_
        obtain rfl := Option.some.inj h19
        refine PJ.wk (Wk.sel (L2 := [(4, .bool (decide (x0.E_ = x1.E_)))]) (H2 := []) 0 (by rw [hFH]; rfl) hFD [] (by kernel_rfl) (by kernel_rfl) (by decide) (by kernel_rfl) (by kernel_rfl) (by kernel_rfl) (by kernel_rfl)) ?_
        exact PJ.cutN [4] (by kernel_rfl) (by kernel_rfl)
      · have h20 := condF hb18 h16
        refine RJ.seg 7 [4] (L2 := [(4, .bool false)]) (H2 := [.box [.bool x0.Neg_, lsv (encI .u8) 1 x0.D_, .int .i64 x0.E_], .box [.bool x1.Neg_, lsv (encI .u8) 1 x1.D_, .int .i64 x1.E_]]) (by kernel_rfl) ?_
        refine RJ.end (by kernel_rfl) ?_
        obtain rfl := Option.some.inj h20
        refine PJ.wk (Wk.sel (L2 := [(4, .bool false)]) (H2 := []) 0 (by rw [hFH]; rfl) hFD [] (by kernel_rfl) (by kernel_rfl) (by decide) (by kernel_rfl) (by kernel_rfl) (by kernel_rfl) (by kernel_rfl)) ?_
        exact PJ.cutN [4] (by kernel_rfl) (by kernel_rfl)
    · have h17 := condF hb15 hy12
      refine RJ.seg 14 [4] (L2 := [(4, .bool false)]) (H2 := [.box [.bool x0.Neg_, lsv (encI .u8) 1 x0.D_, .int .i64 x0.E_], .box [.bool x1.Neg_, lsv (encI .u8) 1 x1.D_, .int .i64 x1.E_]]) (by kernel_rfl) ?_
      refine RJ.end (by kernel_rfl) ?_
      obtain rfl := Option.some.inj h17
      refine PJ.wk (Wk.sel (L2 := [(4, .bool false)]) (H2 := []) 0 (by rw [hFH]; rfl) hFD [] (by kernel_rfl) (by kernel_rfl) (by decide) (by kernel_rfl) (by kernel_rfl) (by kernel_rfl) (by kernel_rfl)) ?_
      exact PJ.cutN [4] (by kernel_rfl) (by kernel_rfl)
  · refine K.ret (by kernel_rfl) ?_
    obtain rfl := Option.some.inj h14
    exact K.ret0 (.inr rfl) hFn hFH hFD (by kernel_rfl) (by kernel_rfl) (by kernel_rfl)

end Go.Proofs.YtcldeecdhdcjdaaDoor
