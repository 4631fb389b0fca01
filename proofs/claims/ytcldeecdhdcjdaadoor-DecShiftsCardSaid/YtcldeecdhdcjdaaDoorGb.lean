/-
  What the functions of this program come to, as functions of natives, each with the proof that it does. No conditions.
-/
import Derived.Test.YtcldeecdhdcjdaaDoorProg
import Derived.Test.YtcldeecdhdcjdaaDoorSyV
import Derived.Test.YtcldeecdhdcjdaaDoorGa
namespace Go.Proofs.YtcldeecdhdcjdaaDoor
open Go Go.Sy Go.RowKit
set_option linter.unusedVariables false
set_option linter.unusedSimpArgs false
set_option maxRecDepth 100000

def exergueref01_Row (x0 : List Int) (x1 : List Int) : Option (Bool) :=
  (bif (decide (¬ (x0.length : Int) = (x1.length : Int))) then (some false) else (Option.bind (loopN (fun (s51 : Int) => (bif (decide (s51 < (x0.length : Int))) then (bif inR s51 x0.length then (bif inR s51 x1.length then (bif (decide (¬ (nth x0 s51) = (nth x1 s51))) then (some (.inr (.inr false))) else (some (.inl (IntKind.wrap .i64 (s51 + 1))))) else none) else none) else (some (.inr (.inl ()))))) big 0) (joinX fun (s46 : Unit) => (some true))))
theorem exergueref01_Row_ok {x0 : List Int} {x1 : List Int} {r : Bool} (h : exergueref01_Row x0 x1 = some r) : SC Tryd.prog 19 [lsv (encI .u8) 1 x0, lsv (encI .u8) 1 x1] [] (.bool r) [] := by
  refine K.fn (fn := Tryd.f19) (by kernel_rfl) (by kernel_rfl) (by kernel_rfl) (by kernel_rfl) (by kernel_rfl) (fun F hFn hFH hFD => ?_)
  unfold exergueref01_Row at h
  refine K.seq (by kernel_rfl) ?_
  refine K.region (by kernel_rfl) ?_
  refine RJ.seg 1 [0, 1, 4] (L2 := [(0, lsv (encI .u8) 1 x0), (1, lsv (encI .u8) 1 x1), (4, .bool false)]) (H2 := []) (by kernel_rfl) ?_
  refine RJ.end (by kernel_rfl) ?_
  refine PJ.next ?_
  refine K.seq (by kernel_rfl) ?_
  refine K.seq (by kernel_rfl) ?_
  refine K.region (by kernel_rfl) ?_
  refine RJ.seg 5 [0, 1, 4, 10] (L2 := [(0, lsv (encI .u8) 1 x0), (1, lsv (encI .u8) 1 x1), (4, .bool false), (10, .bool ((decide (¬ (x0.length : Int) = (x1.length : Int)))))]) (H2 := []) (by kernel_rfl) ?_
  refine RJ.end (by kernel_rfl) ?_
  refine PJ.next ?_
  refine J.caseB 10 (b := (decide (¬ (x0.length : Int) = (x1.length : Int)))) (by kernel_rfl) (fun hb1 => ?_) (fun hb1 => ?_)
  · have h2 := condT hb1 h
    refine K.condT (by kernel_rfl) ?_
    refine K.seq (by kernel_rfl) ?_
    refine K.region (by kernel_rfl) ?_
    refine RJ.seg 1 [0, 1, 4] (L2 := [(0, lsv (encI .u8) 1 x0), (1, lsv (encI .u8) 1 x1), (4, .bool false)]) (H2 := []) (by kernel_rfl) ?_
    refine RJ.end (by kernel_rfl) ?_
    refine PJ.next ?_
    refine K.ret (by kernel_rfl) ?_
    refine PJ.passRet ?_
    obtain rfl := Option.some.inj h2
    exact K.ret0 (.inr rfl) hFn hFH hFD (by kernel_rfl) (by kernel_rfl) (by kernel_rfl)
  · have h3 := condF hb1 h
    refine K.condF (by kernel_rfl) ?_
    refine K.skip (by kernel_rfl) ?_
    refine PJ.next ?_
    obtain ⟨y47, hy48, h49⟩ := bindS h3
    refine K.cutX (by kernel_rfl) (fun (s46 : Unit) => ([(4, .bool false)], [])) y47 ?_ (fun s46 hs => ?_)
    · refine K.seq (by kernel_rfl) ?_
      refine K.region (by kernel_rfl) ?_
      refine RJ.seg 1 [0, 1, 4, 5] (L2 := [(0, lsv (encI .u8) 1 x0), (1, lsv (encI .u8) 1 x1), (4, .bool false), (5, .int .i64 0)]) (H2 := []) (by kernel_rfl) ?_
      refine RJ.end (by kernel_rfl) ?_
      refine PJ.next ?_
      refine K.block 0 (by kernel_rfl) ?_
      refine K.loop (by kernel_rfl) (fun (s51 : Int) => ([(0, lsv (encI .u8) 1 x0), (1, lsv (encI .u8) 1 x1), (4, .bool false), (5, .int .i64 s51)], [])) hy48 [0, 1, 4, 5] (by kernel_rfl) (by kernel_rfl) (fun s51 x79 hs78 => ?_)
      refine K.seq (by kernel_rfl) ?_
      refine K.seq (by kernel_rfl) ?_
      refine K.region (by kernel_rfl) ?_
      refine RJ.seg 4 [0, 1, 4, 5, 14] (L2 := [(0, lsv (encI .u8) 1 x0), (1, lsv (encI .u8) 1 x1), (4, .bool false), (5, .int .i64 s51), (14, .bool ((decide (s51 < (x0.length : Int)))))]) (H2 := []) (by kernel_rfl) ?_
      refine RJ.end (by kernel_rfl) ?_
      refine PJ.next ?_
      refine J.caseB 14 (b := (decide (s51 < (x0.length : Int)))) (by kernel_rfl) (fun hb80 => ?_) (fun hb80 => ?_)
      · have h81 := condT hb80 hs78
        refine K.condT (by kernel_rfl) ?_
        refine K.skip (by kernel_rfl) ?_
        refine PJ.next ?_
        refine K.seq (by kernel_rfl) ?_
        refine K.block 1 (by kernel_rfl) ?_
        refine K.seq (by kernel_rfl) ?_
        refine J.keep [0, 1, 4, 5] (L2 := [(0, lsv (encI .u8) 1 x0), (1, lsv (encI .u8) 1 x1), (4, .bool false), (5, .int .i64 s51)]) (by kernel_rfl) ?_
        refine K.draw (by kernel_rfl) (by kernel_rfl) (by kernel_rfl) (H2 := []) (by kernel_rfl) (n := 0) (by kernel_rfl) ?_
        refine RJ.segD 2 (tr2 := [([], []), ([], [])]) (L2 := [(18, .int .i64 s51), (17, lsv (encI .u8) 1 x0), (0, lsv (encI .u8) 1 x0), (1, lsv (encI .u8) 1 x1), (4, .bool false), (5, .int .i64 s51)]) (H2 := []) (by kernel_rfl) ?_
        obtain ⟨hm, h83⟩ := asrt h81
        refine RJ.rel (d := (some 19)) (ef := ⟨.ep (((x0.flatMap (encI .u8)).drop ((s51 : Int).toNat * 1)).take 1), [], []⟩) (ef' := ⟨.ep ((encI .u8) (nth x0 s51)), [], []⟩) (c := inR s51 x0.length) (tr2 := [([], []), ([], []), ([], [])]) (H2 := []) (by kernel_rfl) hm (fun hc => N.idx (encI_len .u8) hc) (by kernel_rfl) ?_
        refine RJ.segD 3 (tr2 := [([], []), ([], []), ([], []), ([], []), ([], []), ([], [])]) (L2 := [(22, .int .i64 s51), (21, lsv (encI .u8) 1 x1), (20, .int .u8 (nth x0 s51)), (19, .ep [.int .u8 (nth x0 s51)]), (18, .int .i64 s51), (17, lsv (encI .u8) 1 x0), (0, lsv (encI .u8) 1 x0), (1, lsv (encI .u8) 1 x1), (4, .bool false), (5, .int .i64 s51)]) (H2 := []) (by kernel_rfl) ?_
        obtain ⟨hm, h84⟩ := asrt h83
        refine RJ.rel (d := (some 23)) (ef := ⟨.ep (((x1.flatMap (encI .u8)).drop ((s51 : Int).toNat * 1)).take 1), [], []⟩) (ef' := ⟨.ep ((encI .u8) (nth x1 s51)), [], []⟩) (c := inR s51 x1.length) (tr2 := [([], []), ([], []), ([], []), ([], []), ([], []), ([], []), ([], [])]) (H2 := []) (by kernel_rfl) hm (fun hc => N.idx (encI_len .u8) hc) (by kernel_rfl) ?_
        refine RJ.segD 2 (tr2 := [([], []), ([], []), ([], []), ([], []), ([], []), ([], []), ([], []), ([], []), ([], [])]) (L2 := [(25, .bool ((decide (¬ (nth x0 s51) = (nth x1 s51))))), (24, .int .u8 (nth x1 s51)), (23, .ep [.int .u8 (nth x1 s51)]), (22, .int .i64 s51), (21, lsv (encI .u8) 1 x1), (20, .int .u8 (nth x0 s51)), (19, .ep [.int .u8 (nth x0 s51)]), (18, .int .i64 s51), (17, lsv (encI .u8) 1 x0), (0, lsv (encI .u8) 1 x0), (1, lsv (encI .u8) 1 x1), (4, .bool false), (5, .int .i64 s51)]) (H2 := []) (by kernel_rfl) ?_
        refine RJ.end (by kernel_rfl) ?_
        refine PJ.next ?_
        refine J.caseB 25 (b := (decide (¬ (nth x0 s51) = (nth x1 s51)))) (by kernel_rfl) (fun hb85 => ?_) (fun hb85 => ?_)
        · have h86 := condT hb85 h84
          refine K.condT (by kernel_rfl) ?_
          refine K.seq (by kernel_rfl) ?_
          refine K.region (by kernel_rfl) ?_
          refine RJ.seg 1 [0, 1, 4, 5] (L2 := [(0, lsv (encI .u8) 1 x0), (1, lsv (encI .u8) 1 x1), (4, .bool false), (5, .int .i64 s51)]) (H2 := []) (by kernel_rfl) ?_
          refine RJ.end (by kernel_rfl) ?_
          refine PJ.next ?_
          refine K.ret (by kernel_rfl) ?_
          refine PJ.blockRet ?_
          refine PJ.passRet ?_
          obtain rfl := Option.some.inj h86
          refine PJ.loopOut (fun e => nomatch e) (fun he90 => ?_)
          have h88 := congrArg some he90
          refine PJ.blockRet ?_
          obtain rfl := Option.some.inj h88
          have h89 := joinX_inr h49
          refine PJ.cutXr (fun e => nomatch e) ?_
          obtain rfl := Option.some.inj h89
          exact K.ret0 (.inr rfl) hFn hFH hFD (by kernel_rfl) (by kernel_rfl) (by kernel_rfl)
        · have h87 := condF hb85 h84
          refine K.condF (by kernel_rfl) ?_
          refine K.skip (by kernel_rfl) ?_
          refine PJ.blockNormal ?_
          refine PJ.next ?_
          refine K.region (by kernel_rfl) ?_
          refine RJ.seg 3 [0, 1, 4, 5] (L2 := [(0, lsv (encI .u8) 1 x0), (1, lsv (encI .u8) 1 x1), (4, .bool false), (5, .int .i64 (IntKind.wrap .i64 (s51 + 1)))]) (H2 := []) (by kernel_rfl) ?_
          refine RJ.end (by kernel_rfl) ?_
          obtain rfl := Option.some.inj h87
          exact PJ.loopNext [0, 1, 4, 5] (by kernel_rfl) (by kernel_rfl)
      · have h82 := condF hb80 hs78
        refine K.condF (by kernel_rfl) ?_
        refine K.exit 0 (by kernel_rfl) ?_
        refine PJ.passExit ?_
        obtain rfl := Option.some.inj h82
        refine PJ.loopOut (fun e => nomatch e) (fun he92 => ?_)
        have h91 := congrArg some he92
        refine PJ.blockOut ?_
        obtain rfl := Option.some.inj h91
        exact PJ.cutXl [4] (by kernel_rfl) (by kernel_rfl)
    · subst hs
      have h50 := joinX_inl h49
      refine K.seq (by kernel_rfl) ?_
      refine K.region (by kernel_rfl) ?_
      refine RJ.seg 1 [4] (L2 := [(4, .bool true)]) (H2 := []) (by kernel_rfl) ?_
      refine RJ.end (by kernel_rfl) ?_
      refine PJ.next ?_
      refine K.ret (by kernel_rfl) ?_
      obtain rfl := Option.some.inj h50
      exact K.ret0 (.inr rfl) hFn hFH hFD (by kernel_rfl) (by kernel_rfl) (by kernel_rfl)

def exergueref05_Same (x0 : St23) (x1 : St23) : Option (Bool) :=
  (Option.bind (exergueref01_Row x0.D_ x1.D_) fun y1 => (Option.bind (bif y1 then (bif (x0.Neg_ == x1.Neg_) then (some (decide (x0.E_ = x1.E_))) else (some false)) else (some false)) fun (s10 : Bool) => (some s10)))
theorem exergueref05_Same_ok {x0 : St23} {x1 : St23} {r : Bool} (h : exergueref05_Same x0 x1 = some r) : SC Tryd.prog 13 [.agg [.bool x0.Neg_, lsv (encI .u8) 1 x0.D_, .int .i64 x0.E_], .agg [.bool x1.Neg_, lsv (encI .u8) 1 x1.D_, .int .i64 x1.E_]] [] (.bool r) [] := by
  refine K.fn (fn := Tryd.f13) (by kernel_rfl) (by kernel_rfl) (by kernel_rfl) (by kernel_rfl) (by kernel_rfl) (fun F hFn hFH hFD => ?_)
  unfold exergueref05_Same at h
  refine K.seq (by kernel_rfl) ?_
  refine K.region (by kernel_rfl) ?_
  refine RJ.seg 3 [2, 3, 4] (L2 := [(2, .ptr 0 0), (3, .ptr 1 0), (4, .bool false)]) (H2 := [.box [.bool x0.Neg_, lsv (encI .u8) 1 x0.D_, .int .i64 x0.E_], .box [.bool x1.Neg_, lsv (encI .u8) 1 x1.D_, .int .i64 x1.E_]]) (by kernel_rfl) ?_
  refine RJ.end (by kernel_rfl) ?_
  refine PJ.next ?_
  refine K.seq (by kernel_rfl) ?_
  refine K.region (by kernel_rfl) ?_
  refine RJ.seg 4 [2, 3, 4, 7, 9] (L2 := [(2, .ptr 0 0), (3, .ptr 1 0), (4, .bool false), (7, lsv (encI .u8) 1 x0.D_), (9, lsv (encI .u8) 1 x1.D_)]) (H2 := [.box [.bool x0.Neg_, lsv (encI .u8) 1 x0.D_, .int .i64 x0.E_], .box [.bool x1.Neg_, lsv (encI .u8) 1 x1.D_, .int .i64 x1.E_]]) (by kernel_rfl) ?_
  obtain ⟨y1, hy2, h3⟩ := bindS h
  refine RJ.call0 (d := (some 10)) (f := 19) (args := [lsv (encI .u8) 1 x0.D_, lsv (encI .u8) 1 x1.D_]) (v := .bool y1) (tr2 := []) (by kernel_rfl) (by kernel_rfl) (.cons (Le.refl _) (.cons (Le.refl _) .nil)) (exergueref01_Row_ok hy2) (by kernel_rfl) ?_
  refine RJ.seg 1 [2, 3, 4, 5] (L2 := [(2, .ptr 0 0), (3, .ptr 1 0), (4, .bool false), (5, .bool y1)]) (H2 := [.box [.bool x0.Neg_, lsv (encI .u8) 1 x0.D_, .int .i64 x0.E_], .box [.bool x1.Neg_, lsv (encI .u8) 1 x1.D_, .int .i64 x1.E_]]) (by kernel_rfl) ?_
  refine RJ.end (by kernel_rfl) ?_
  refine PJ.next ?_
  obtain ⟨s10, hy12, h14⟩ := bindS h3
  refine K.cutN (by kernel_rfl) (fun (s10 : Bool) => ([(4, .bool s10)], [])) s10 ?_ ?_
  · refine K.region (by kernel_rfl) ?_
    refine RJ.seg 2 [2, 3, 4, 12] (L2 := [(2, .ptr 0 0), (3, .ptr 1 0), (4, .bool false), (12, .bool y1)]) (H2 := [.box [.bool x0.Neg_, lsv (encI .u8) 1 x0.D_, .int .i64 x0.E_], .box [.bool x1.Neg_, lsv (encI .u8) 1 x1.D_, .int .i64 x1.E_]]) (by kernel_rfl) ?_
    refine RJ.caseB 12 (b := y1) (by kernel_rfl) (fun hb15 => ?_) (fun hb15 => ?_)
    · have h16 := condT hb15 hy12
      refine RJ.seg 7 [2, 3, 4, 19] (L2 := [(2, .ptr 0 0), (3, .ptr 1 0), (4, .bool false), (19, .bool (x0.Neg_ == x1.Neg_))]) (H2 := [.box [.bool x0.Neg_, lsv (encI .u8) 1 x0.D_, .int .i64 x0.E_], .box [.bool x1.Neg_, lsv (encI .u8) 1 x1.D_, .int .i64 x1.E_]]) (by kernel_rfl) ?_
      refine RJ.caseB 19 (b := (x0.Neg_ == x1.Neg_)) (by kernel_rfl) (fun hb18 => ?_) (fun hb18 => ?_)
      · have h19 := condT hb18 h16
        refine RJ.seg 7 [4] (L2 := [(4, .bool (decide (x0.E_ = x1.E_)))]) (H2 := [.box [.bool x0.Neg_, lsv (encI .u8) 1 x0.D_, .int .i64 x0.E_], .box [.bool x1.Neg_, lsv (encI .u8) 1 x1.D_, .int .i64 x1.E_]]) (by kernel_rfl) ?_
        refine RJ.end (by kernel_rfl) ?_
        obtain rfl := Option.some.inj h19
        refine PJ.wk (Wk.sel (L2 := [(4, .bool (decide (x0.E_ = x1.E_)))]) (H2 := []) 0 (by rw [hFH]; rfl) hFD [] (by kernel_rfl) (by kernel_rfl) (by decide) (by kernel_rfl) (by kernel_rfl) (by kernel_rfl) (by kernel_rfl)) ?_
        exact PJ.cutN [4] (by kernel_rfl) (by kernel_rfl)
      · have h20 := condF hb18 h16
        refine RJ.seg 7 [4] (L2 := [(4, .bool false)]) (H2 := [.box [.bool x0.Neg_, lsv (encI .u8) 1 x0.D_, .int .i64 x0.E_], .box [.bool x1.Neg_, lsv (encI .u8) 1 x1.D_, .int .i64 x1.E_]]) (by kernel_rfl) ?_
        refine RJ.end (by kernel_rfl) ?_
        obtain rfl := Option.some.inj h20
        refine PJ.wk (Wk.sel (L2 := [(4, .bool false)]) (H2 := []) 0 (by rw [hFH]; rfl) hFD [] (by kernel_rfl) (by kernel_rfl) (by decide) (by kernel_rfl) (by kernel_rfl) (by kernel_rfl) (by kernel_rfl)) ?_
        exact PJ.cutN [4] (by kernel_rfl) (by kernel_rfl)
    · have h17 := condF hb15 hy12
      refine RJ.seg 14 [4] (L2 := [(4, .bool false)]) (H2 := [.box [.bool x0.Neg_, lsv (encI .u8) 1 x0.D_, .int .i64 x0.E_], .box [.bool x1.Neg_, lsv (encI .u8) 1 x1.D_, .int .i64 x1.E_]]) (by kernel_rfl) ?_
      refine RJ.end (by kernel_rfl) ?_
      obtain rfl := Option.some.inj h17
      refine PJ.wk (Wk.sel (L2 := [(4, .bool false)]) (H2 := []) 0 (by rw [hFH]; rfl) hFD [] (by kernel_rfl) (by kernel_rfl) (by decide) (by kernel_rfl) (by kernel_rfl) (by kernel_rfl) (by kernel_rfl)) ?_
      exact PJ.cutN [4] (by kernel_rfl) (by kernel_rfl)
  · refine K.ret (by kernel_rfl) ?_
    obtain rfl := Option.some.inj h14
    exact K.ret0 (.inr rfl) hFn hFH hFD (by kernel_rfl) (by kernel_rfl) (by kernel_rfl)

def exerguelaw05_DecOrder (x0 : St23) (x1 : St23) (x2 : St23) : Option (Bool) :=
  (Option.bind exerguelaw05_shown fun y1 => (Option.bind (Option.bind (Option.bind (exergueref05_Right x0) fun y68 => (bif (!y68) then (some true) else (Option.bind (exergueref05_Right x1) fun y74 => (bif (!y74) then (some true) else (Option.bind (exergueref05_Right x2) fun y80 => (some (!y80))))))) fun (s63 : Bool) => (bif s63 then (some (.inr y1)) else (some (.inl ())))) (joinX fun (s43 : Unit) => (Option.bind (dec_Cmp x0 x1) fun y87 => (Option.bind (Option.bind (exergueref05_Same x0 x1) fun y104 => (bif y104 then (some true) else (bif (decide ((x0.D_.length : Int) = 0)) then (some ((decide ((x1.D_.length : Int) = 0)))) else (some false)))) fun (s99 : Bool) => (Option.bind (Option.bind (Option.bind (dec_Cmp x1 x0) fun y168 => (bif (decide (¬ y168 = (IntKind.wrap .i64 (0 - y87)))) then (some true) else (bif ((decide (y87 = 0)) != s99) then (some true) else (bif (decide (y87 < (-1))) then (some true) else (some (decide (y87 > 1))))))) fun (s163 : Bool) => (bif s163 then (some (.inr false)) else (some (.inl ())))) (joinX fun (s146 : Unit) => (Option.bind (bif y1 then (bif (decide (y87 > 0)) then (some true) else (Option.bind (dec_Cmp x1 x2) fun y210 => (bif (decide (y210 > 0)) then (some true) else (Option.bind (dec_Cmp x0 x2) fun y216 => (some (decide (y216 ≤ 0))))))) else (some false)) fun (s199 : Bool) => (some s199)))))))))
theorem exerguelaw05_DecOrder_ok {x0 : St23} {x1 : St23} {x2 : St23} {r : Bool} (h : exerguelaw05_DecOrder x0 x1 x2 = some r) : SC Tryd.prog 5 [.agg [.bool x0.Neg_, lsv (encI .u8) 1 x0.D_, .int .i64 x0.E_], .agg [.bool x1.Neg_, lsv (encI .u8) 1 x1.D_, .int .i64 x1.E_], .agg [.bool x2.Neg_, lsv (encI .u8) 1 x2.D_, .int .i64 x2.E_]] [] (.bool r) [] := by
  refine K.fn (fn := Tryd.f5) (by kernel_rfl) (by kernel_rfl) (by kernel_rfl) (by kernel_rfl) (by kernel_rfl) (fun F hFn hFH hFD => ?_)
  unfold exerguelaw05_DecOrder at h
  refine K.seq (by kernel_rfl) ?_
  refine K.region (by kernel_rfl) ?_
  refine RJ.seg 4 [3, 4, 5, 6] (L2 := [(3, .ptr 0 0), (4, .ptr 1 0), (5, .ptr 2 0), (6, .bool false)]) (H2 := [.box [.bool x0.Neg_, lsv (encI .u8) 1 x0.D_, .int .i64 x0.E_], .box [.bool x1.Neg_, lsv (encI .u8) 1 x1.D_, .int .i64 x1.E_], .box [.bool x2.Neg_, lsv (encI .u8) 1 x2.D_, .int .i64 x2.E_]]) (by kernel_rfl) ?_
  refine RJ.end (by kernel_rfl) ?_
  refine PJ.next ?_
  refine K.seq (by kernel_rfl) ?_
  refine K.region (by kernel_rfl) ?_
  obtain ⟨y1, hy2, h3⟩ := bindS h
  refine RJ.call0 (d := (some 10)) (f := 10) (args := []) (v := .bool y1) (tr2 := []) (by kernel_rfl) (by kernel_rfl) .nil (exerguelaw05_shown_ok hy2) (by kernel_rfl) ?_
  refine RJ.seg 1 [3, 4, 5, 6, 7] (L2 := [(3, .ptr 0 0), (4, .ptr 1 0), (5, .ptr 2 0), (6, .bool false), (7, .bool y1)]) (H2 := [.box [.bool x0.Neg_, lsv (encI .u8) 1 x0.D_, .int .i64 x0.E_], .box [.bool x1.Neg_, lsv (encI .u8) 1 x1.D_, .int .i64 x1.E_], .box [.bool x2.Neg_, lsv (encI .u8) 1 x2.D_, .int .i64 x2.E_]]) (by kernel_rfl) ?_
  refine RJ.end (by kernel_rfl) ?_
  refine PJ.next ?_
  obtain ⟨y44, hy45, h46⟩ := bindS h3
  refine K.cutX (by kernel_rfl) (fun (s43 : Unit) => ([(3, .ptr 0 0), (4, .ptr 1 0), (5, .ptr 2 0), (6, .bool false), (7, .bool y1)], [.box [.bool x0.Neg_, lsv (encI .u8) 1 x0.D_, .int .i64 x0.E_], .box [.bool x1.Neg_, lsv (encI .u8) 1 x1.D_, .int .i64 x1.E_], .box [.bool x2.Neg_, lsv (encI .u8) 1 x2.D_, .int .i64 x2.E_]])) y44 ?_ (fun s43 hs => ?_)
  · obtain ⟨s63, hy65, h67⟩ := bindS hy45
    refine K.cutN (by kernel_rfl) (fun (s63 : Bool) => ([(3, .ptr 0 0), (4, .ptr 1 0), (5, .ptr 2 0), (6, .bool false), (7, .bool y1), (23, .bool s63)], [.box [.bool x0.Neg_, lsv (encI .u8) 1 x0.D_, .int .i64 x0.E_], .box [.bool x1.Neg_, lsv (encI .u8) 1 x1.D_, .int .i64 x1.E_], .box [.bool x2.Neg_, lsv (encI .u8) 1 x2.D_, .int .i64 x2.E_]])) s63 ?_ ?_
    · refine K.region (by kernel_rfl) ?_
      refine RJ.seg 1 [3, 4, 5, 6, 7, 11] (L2 := [(3, .ptr 0 0), (4, .ptr 1 0), (5, .ptr 2 0), (6, .bool false), (7, .bool y1), (11, .agg [.bool x0.Neg_, lsv (encI .u8) 1 x0.D_, .int .i64 x0.E_])]) (H2 := [.box [.bool x0.Neg_, lsv (encI .u8) 1 x0.D_, .int .i64 x0.E_], .box [.bool x1.Neg_, lsv (encI .u8) 1 x1.D_, .int .i64 x1.E_], .box [.bool x2.Neg_, lsv (encI .u8) 1 x2.D_, .int .i64 x2.E_]]) (by kernel_rfl) ?_
      obtain ⟨y68, hy69, h70⟩ := bindS hy65
      refine RJ.call0 (d := (some 12)) (f := 14) (args := [.agg [.bool x0.Neg_, lsv (encI .u8) 1 x0.D_, .int .i64 x0.E_]]) (v := .bool y68) (tr2 := []) (by kernel_rfl) (by kernel_rfl) (.cons (Le.refl _) .nil) (exergueref05_Right_ok hy69) (by kernel_rfl) ?_
      refine RJ.seg 2 [3, 4, 5, 6, 7, 14] (L2 := [(3, .ptr 0 0), (4, .ptr 1 0), (5, .ptr 2 0), (6, .bool false), (7, .bool y1), (14, .bool (!y68))]) (H2 := [.box [.bool x0.Neg_, lsv (encI .u8) 1 x0.D_, .int .i64 x0.E_], .box [.bool x1.Neg_, lsv (encI .u8) 1 x1.D_, .int .i64 x1.E_], .box [.bool x2.Neg_, lsv (encI .u8) 1 x2.D_, .int .i64 x2.E_]]) (by kernel_rfl) ?_
      refine RJ.caseB 14 (b := (!y68)) (by kernel_rfl) (fun hb71 => ?_) (fun hb71 => ?_)
      · have h72 := condT hb71 h70
        refine RJ.seg 9 [3, 4, 5, 6, 7, 23] (L2 := [(3, .ptr 0 0), (4, .ptr 1 0), (5, .ptr 2 0), (6, .bool false), (7, .bool y1), (23, .bool true)]) (H2 := [.box [.bool x0.Neg_, lsv (encI .u8) 1 x0.D_, .int .i64 x0.E_], .box [.bool x1.Neg_, lsv (encI .u8) 1 x1.D_, .int .i64 x1.E_], .box [.bool x2.Neg_, lsv (encI .u8) 1 x2.D_, .int .i64 x2.E_]]) (by kernel_rfl) ?_
        refine RJ.end (by kernel_rfl) ?_
        obtain rfl := Option.some.inj h72
        exact PJ.cutN [3, 4, 5, 6, 7, 23] (by kernel_rfl) (by kernel_rfl)
      · have h73 := condF hb71 h70
        refine RJ.seg 1 [3, 4, 5, 6, 7, 14, 15] (L2 := [(3, .ptr 0 0), (4, .ptr 1 0), (5, .ptr 2 0), (6, .bool false), (7, .bool y1), (14, .bool false), (15, .agg [.bool x1.Neg_, lsv (encI .u8) 1 x1.D_, .int .i64 x1.E_])]) (H2 := [.box [.bool x0.Neg_, lsv (encI .u8) 1 x0.D_, .int .i64 x0.E_], .box [.bool x1.Neg_, lsv (encI .u8) 1 x1.D_, .int .i64 x1.E_], .box [.bool x2.Neg_, lsv (encI .u8) 1 x2.D_, .int .i64 x2.E_]]) (by kernel_rfl) ?_
        obtain ⟨y74, hy75, h76⟩ := bindS h73
        refine RJ.call0 (d := (some 16)) (f := 14) (args := [.agg [.bool x1.Neg_, lsv (encI .u8) 1 x1.D_, .int .i64 x1.E_]]) (v := .bool y74) (tr2 := []) (by kernel_rfl) (by kernel_rfl) (.cons (Le.refl _) .nil) (exergueref05_Right_ok hy75) (by kernel_rfl) ?_
        refine RJ.seg 3 [3, 4, 5, 6, 7, 19] (L2 := [(3, .ptr 0 0), (4, .ptr 1 0), (5, .ptr 2 0), (6, .bool false), (7, .bool y1), (19, .bool (!y74))]) (H2 := [.box [.bool x0.Neg_, lsv (encI .u8) 1 x0.D_, .int .i64 x0.E_], .box [.bool x1.Neg_, lsv (encI .u8) 1 x1.D_, .int .i64 x1.E_], .box [.bool x2.Neg_, lsv (encI .u8) 1 x2.D_, .int .i64 x2.E_]]) (by kernel_rfl) ?_
        refine RJ.caseB 19 (b := (!y74)) (by kernel_rfl) (fun hb77 => ?_) (fun hb77 => ?_)
        · have h78 := condT hb77 h76
          refine RJ.seg 4 [3, 4, 5, 6, 7, 23] (L2 := [(3, .ptr 0 0), (4, .ptr 1 0), (5, .ptr 2 0), (6, .bool false), (7, .bool y1), (23, .bool true)]) (H2 := [.box [.bool x0.Neg_, lsv (encI .u8) 1 x0.D_, .int .i64 x0.E_], .box [.bool x1.Neg_, lsv (encI .u8) 1 x1.D_, .int .i64 x1.E_], .box [.bool x2.Neg_, lsv (encI .u8) 1 x2.D_, .int .i64 x2.E_]]) (by kernel_rfl) ?_
          refine RJ.end (by kernel_rfl) ?_
          obtain rfl := Option.some.inj h78
          exact PJ.cutN [3, 4, 5, 6, 7, 23] (by kernel_rfl) (by kernel_rfl)
        · have h79 := condF hb77 h76
          refine RJ.seg 1 [3, 4, 5, 6, 7, 19, 20] (L2 := [(3, .ptr 0 0), (4, .ptr 1 0), (5, .ptr 2 0), (6, .bool false), (7, .bool y1), (19, .bool false), (20, .agg [.bool x2.Neg_, lsv (encI .u8) 1 x2.D_, .int .i64 x2.E_])]) (H2 := [.box [.bool x0.Neg_, lsv (encI .u8) 1 x0.D_, .int .i64 x0.E_], .box [.bool x1.Neg_, lsv (encI .u8) 1 x1.D_, .int .i64 x1.E_], .box [.bool x2.Neg_, lsv (encI .u8) 1 x2.D_, .int .i64 x2.E_]]) (by kernel_rfl) ?_
          obtain ⟨y80, hy81, h82⟩ := bindS h79
          refine RJ.call0 (d := (some 21)) (f := 14) (args := [.agg [.bool x2.Neg_, lsv (encI .u8) 1 x2.D_, .int .i64 x2.E_]]) (v := .bool y80) (tr2 := []) (by kernel_rfl) (by kernel_rfl) (.cons (Le.refl _) .nil) (exergueref05_Right_ok hy81) (by kernel_rfl) ?_
          refine RJ.seg 2 [3, 4, 5, 6, 7, 23] (L2 := [(3, .ptr 0 0), (4, .ptr 1 0), (5, .ptr 2 0), (6, .bool false), (7, .bool y1), (23, .bool (!y80))]) (H2 := [.box [.bool x0.Neg_, lsv (encI .u8) 1 x0.D_, .int .i64 x0.E_], .box [.bool x1.Neg_, lsv (encI .u8) 1 x1.D_, .int .i64 x1.E_], .box [.bool x2.Neg_, lsv (encI .u8) 1 x2.D_, .int .i64 x2.E_]]) (by kernel_rfl) ?_
          refine RJ.end (by kernel_rfl) ?_
          obtain rfl := Option.some.inj h82
          exact PJ.cutN [3, 4, 5, 6, 7, 23] (by kernel_rfl) (by kernel_rfl)
    · refine J.caseB 23 (b := s63) (by kernel_rfl) (fun hb83 => ?_) (fun hb83 => ?_)
      · have h84 := condT hb83 h67
        refine K.condT (by kernel_rfl) ?_
        refine K.seq (by kernel_rfl) ?_
        refine K.region (by kernel_rfl) ?_
        refine RJ.seg 2 [3, 4, 5, 6, 7] (L2 := [(3, .ptr 0 0), (4, .ptr 1 0), (5, .ptr 2 0), (6, .bool y1), (7, .bool y1)]) (H2 := [.box [.bool x0.Neg_, lsv (encI .u8) 1 x0.D_, .int .i64 x0.E_], .box [.bool x1.Neg_, lsv (encI .u8) 1 x1.D_, .int .i64 x1.E_], .box [.bool x2.Neg_, lsv (encI .u8) 1 x2.D_, .int .i64 x2.E_]]) (by kernel_rfl) ?_
        refine RJ.end (by kernel_rfl) ?_
        refine PJ.next ?_
        refine K.ret (by kernel_rfl) ?_
        obtain rfl := Option.some.inj h84
        have h86 := joinX_inr h46
        refine PJ.cutXr (fun e => nomatch e) ?_
        obtain rfl := Option.some.inj h86
        exact K.ret0 (.inr rfl) hFn hFH hFD (by kernel_rfl) (by kernel_rfl) (by kernel_rfl)
      · have h85 := condF hb83 h67
        refine K.condF (by kernel_rfl) ?_
        refine K.skip (by kernel_rfl) ?_
        obtain rfl := Option.some.inj h85
        exact PJ.cutXl [3, 4, 5, 6, 7] (by kernel_rfl) (by kernel_rfl)
  · subst hs
    have h47 := joinX_inl h46
    refine K.seq (by kernel_rfl) ?_
    refine K.region (by kernel_rfl) ?_
    refine RJ.seg 2 [3, 4, 5, 6, 7, 25, 26] (L2 := [(3, .ptr 0 0), (4, .ptr 1 0), (5, .ptr 2 0), (6, .bool false), (7, .bool y1), (25, .agg [.bool x0.Neg_, lsv (encI .u8) 1 x0.D_, .int .i64 x0.E_]), (26, .agg [.bool x1.Neg_, lsv (encI .u8) 1 x1.D_, .int .i64 x1.E_])]) (H2 := [.box [.bool x0.Neg_, lsv (encI .u8) 1 x0.D_, .int .i64 x0.E_], .box [.bool x1.Neg_, lsv (encI .u8) 1 x1.D_, .int .i64 x1.E_], .box [.bool x2.Neg_, lsv (encI .u8) 1 x2.D_, .int .i64 x2.E_]]) (by kernel_rfl) ?_
    obtain ⟨y87, hy88, h89⟩ := bindS h47
    refine RJ.call0 (d := (some 27)) (f := 17) (args := [.agg [.bool x0.Neg_, lsv (encI .u8) 1 x0.D_, .int .i64 x0.E_], .agg [.bool x1.Neg_, lsv (encI .u8) 1 x1.D_, .int .i64 x1.E_]]) (v := .int .i64 y87) (tr2 := []) (by kernel_rfl) (by kernel_rfl) (.cons (Le.refl _) (.cons (Le.refl _) .nil)) (dec_Cmp_ok hy88) (by kernel_rfl) ?_
    refine RJ.seg 1 [3, 4, 5, 6, 7, 8] (L2 := [(3, .ptr 0 0), (4, .ptr 1 0), (5, .ptr 2 0), (6, .bool false), (7, .bool y1), (8, .int .i64 y87)]) (H2 := [.box [.bool x0.Neg_, lsv (encI .u8) 1 x0.D_, .int .i64 x0.E_], .box [.bool x1.Neg_, lsv (encI .u8) 1 x1.D_, .int .i64 x1.E_], .box [.bool x2.Neg_, lsv (encI .u8) 1 x2.D_, .int .i64 x2.E_]]) (by kernel_rfl) ?_
    refine RJ.end (by kernel_rfl) ?_
    refine PJ.next ?_
    obtain ⟨s99, hy101, h103⟩ := bindS h89
    refine K.cutN (by kernel_rfl) (fun (s99 : Bool) => ([(3, .ptr 0 0), (4, .ptr 1 0), (5, .ptr 2 0), (6, .bool false), (7, .bool y1), (8, .int .i64 y87), (9, .bool s99)], [.box [.bool x0.Neg_, lsv (encI .u8) 1 x0.D_, .int .i64 x0.E_], .box [.bool x1.Neg_, lsv (encI .u8) 1 x1.D_, .int .i64 x1.E_], .box [.bool x2.Neg_, lsv (encI .u8) 1 x2.D_, .int .i64 x2.E_]])) s99 ?_ ?_
    · refine K.region (by kernel_rfl) ?_
      refine RJ.seg 2 [3, 4, 5, 6, 7, 8, 28, 29] (L2 := [(3, .ptr 0 0), (4, .ptr 1 0), (5, .ptr 2 0), (6, .bool false), (7, .bool y1), (8, .int .i64 y87), (28, .agg [.bool x0.Neg_, lsv (encI .u8) 1 x0.D_, .int .i64 x0.E_]), (29, .agg [.bool x1.Neg_, lsv (encI .u8) 1 x1.D_, .int .i64 x1.E_])]) (H2 := [.box [.bool x0.Neg_, lsv (encI .u8) 1 x0.D_, .int .i64 x0.E_], .box [.bool x1.Neg_, lsv (encI .u8) 1 x1.D_, .int .i64 x1.E_], .box [.bool x2.Neg_, lsv (encI .u8) 1 x2.D_, .int .i64 x2.E_]]) (by kernel_rfl) ?_
      obtain ⟨y104, hy105, h106⟩ := bindS hy101
      refine RJ.call0 (d := (some 30)) (f := 13) (args := [.agg [.bool x0.Neg_, lsv (encI .u8) 1 x0.D_, .int .i64 x0.E_], .agg [.bool x1.Neg_, lsv (encI .u8) 1 x1.D_, .int .i64 x1.E_]]) (v := .bool y104) (tr2 := []) (by kernel_rfl) (by kernel_rfl) (.cons (Le.refl _) (.cons (Le.refl _) .nil)) (exergueref05_Same_ok hy105) (by kernel_rfl) ?_
      refine RJ.seg 1 [3, 4, 5, 6, 7, 8, 31] (L2 := [(3, .ptr 0 0), (4, .ptr 1 0), (5, .ptr 2 0), (6, .bool false), (7, .bool y1), (8, .int .i64 y87), (31, .bool y104)]) (H2 := [.box [.bool x0.Neg_, lsv (encI .u8) 1 x0.D_, .int .i64 x0.E_], .box [.bool x1.Neg_, lsv (encI .u8) 1 x1.D_, .int .i64 x1.E_], .box [.bool x2.Neg_, lsv (encI .u8) 1 x2.D_, .int .i64 x2.E_]]) (by kernel_rfl) ?_
      refine RJ.caseB 31 (b := y104) (by kernel_rfl) (fun hb107 => ?_) (fun hb107 => ?_)
      · have h108 := condT hb107 h106
        refine RJ.seg 12 [3, 4, 5, 6, 7, 8, 9] (L2 := [(3, .ptr 0 0), (4, .ptr 1 0), (5, .ptr 2 0), (6, .bool false), (7, .bool y1), (8, .int .i64 y87), (9, .bool true)]) (H2 := [.box [.bool x0.Neg_, lsv (encI .u8) 1 x0.D_, .int .i64 x0.E_], .box [.bool x1.Neg_, lsv (encI .u8) 1 x1.D_, .int .i64 x1.E_], .box [.bool x2.Neg_, lsv (encI .u8) 1 x2.D_, .int .i64 x2.E_]]) (by kernel_rfl) ?_
        refine RJ.end (by kernel_rfl) ?_
        obtain rfl := Option.some.inj h108
        exact PJ.cutN [3, 4, 5, 6, 7, 8, 9] (by kernel_rfl) (by kernel_rfl)
      · have h109 := condF hb107 h106
        refine RJ.seg 5 [3, 4, 5, 6, 7, 8, 31, 36] (L2 := [(3, .ptr 0 0), (4, .ptr 1 0), (5, .ptr 2 0), (6, .bool false), (7, .bool y1), (8, .int .i64 y87), (31, .bool false), (36, .bool ((decide ((x0.D_.length : Int) = 0))))]) (H2 := [.box [.bool x0.Neg_, lsv (encI .u8) 1 x0.D_, .int .i64 x0.E_], .box [.bool x1.Neg_, lsv (encI .u8) 1 x1.D_, .int .i64 x1.E_], .box [.bool x2.Neg_, lsv (encI .u8) 1 x2.D_, .int .i64 x2.E_]]) (by kernel_rfl) ?_
        refine RJ.caseB 36 (b := (decide ((x0.D_.length : Int) = 0))) (by kernel_rfl) (fun hb110 => ?_) (fun hb110 => ?_)
        · have h111 := condT hb110 h109
          refine RJ.seg 7 [3, 4, 5, 6, 7, 8, 9] (L2 := [(3, .ptr 0 0), (4, .ptr 1 0), (5, .ptr 2 0), (6, .bool false), (7, .bool y1), (8, .int .i64 y87), (9, .bool ((decide ((x1.D_.length : Int) = 0))))]) (H2 := [.box [.bool x0.Neg_, lsv (encI .u8) 1 x0.D_, .int .i64 x0.E_], .box [.bool x1.Neg_, lsv (encI .u8) 1 x1.D_, .int .i64 x1.E_], .box [.bool x2.Neg_, lsv (encI .u8) 1 x2.D_, .int .i64 x2.E_]]) (by kernel_rfl) ?_
          refine RJ.end (by kernel_rfl) ?_
          obtain rfl := Option.some.inj h111
          exact PJ.cutN [3, 4, 5, 6, 7, 8, 9] (by kernel_rfl) (by kernel_rfl)
        · have h112 := condF hb110 h109
          refine RJ.seg 7 [3, 4, 5, 6, 7, 8, 9] (L2 := [(3, .ptr 0 0), (4, .ptr 1 0), (5, .ptr 2 0), (6, .bool false), (7, .bool y1), (8, .int .i64 y87), (9, .bool false)]) (H2 := [.box [.bool x0.Neg_, lsv (encI .u8) 1 x0.D_, .int .i64 x0.E_], .box [.bool x1.Neg_, lsv (encI .u8) 1 x1.D_, .int .i64 x1.E_], .box [.bool x2.Neg_, lsv (encI .u8) 1 x2.D_, .int .i64 x2.E_]]) (by kernel_rfl) ?_
          refine RJ.end (by kernel_rfl) ?_
          obtain rfl := Option.some.inj h112
          exact PJ.cutN [3, 4, 5, 6, 7, 8, 9] (by kernel_rfl) (by kernel_rfl)
    · obtain ⟨y147, hy148, h149⟩ := bindS h103
      refine K.cutX (by kernel_rfl) (fun (s146 : Unit) => ([(3, .ptr 0 0), (4, .ptr 1 0), (5, .ptr 2 0), (6, .bool false), (7, .bool y1), (8, .int .i64 y87)], [.box [.bool x0.Neg_, lsv (encI .u8) 1 x0.D_, .int .i64 x0.E_], .box [.bool x1.Neg_, lsv (encI .u8) 1 x1.D_, .int .i64 x1.E_], .box [.bool x2.Neg_, lsv (encI .u8) 1 x2.D_, .int .i64 x2.E_]])) y147 ?_ (fun s146 hs => ?_)
      · obtain ⟨s163, hy165, h167⟩ := bindS hy148
        refine K.cutN (by kernel_rfl) (fun (s163 : Bool) => ([(3, .ptr 0 0), (4, .ptr 1 0), (5, .ptr 2 0), (6, .bool false), (7, .bool y1), (8, .int .i64 y87), (62, .bool s163)], [.box [.bool x0.Neg_, lsv (encI .u8) 1 x0.D_, .int .i64 x0.E_], .box [.bool x1.Neg_, lsv (encI .u8) 1 x1.D_, .int .i64 x1.E_], .box [.bool x2.Neg_, lsv (encI .u8) 1 x2.D_, .int .i64 x2.E_]])) s163 ?_ ?_
        · refine K.region (by kernel_rfl) ?_
          refine RJ.seg 2 [3, 4, 5, 6, 7, 8, 9, 43, 44] (L2 := [(3, .ptr 0 0), (4, .ptr 1 0), (5, .ptr 2 0), (6, .bool false), (7, .bool y1), (8, .int .i64 y87), (9, .bool s99), (43, .agg [.bool x1.Neg_, lsv (encI .u8) 1 x1.D_, .int .i64 x1.E_]), (44, .agg [.bool x0.Neg_, lsv (encI .u8) 1 x0.D_, .int .i64 x0.E_])]) (H2 := [.box [.bool x0.Neg_, lsv (encI .u8) 1 x0.D_, .int .i64 x0.E_], .box [.bool x1.Neg_, lsv (encI .u8) 1 x1.D_, .int .i64 x1.E_], .box [.bool x2.Neg_, lsv (encI .u8) 1 x2.D_, .int .i64 x2.E_]]) (by kernel_rfl) ?_
          obtain ⟨y168, hy169, h170⟩ := bindS hy165
          refine RJ.call0 (d := (some 45)) (f := 17) (args := [.agg [.bool x1.Neg_, lsv (encI .u8) 1 x1.D_, .int .i64 x1.E_], .agg [.bool x0.Neg_, lsv (encI .u8) 1 x0.D_, .int .i64 x0.E_]]) (v := .int .i64 y168) (tr2 := []) (by kernel_rfl) (by kernel_rfl) (.cons (Le.refl _) (.cons (Le.refl _) .nil)) (dec_Cmp_ok hy169) (by kernel_rfl) ?_
          refine RJ.seg 4 [3, 4, 5, 6, 7, 8, 9, 49] (L2 := [(3, .ptr 0 0), (4, .ptr 1 0), (5, .ptr 2 0), (6, .bool false), (7, .bool y1), (8, .int .i64 y87), (9, .bool s99), (49, .bool ((decide (¬ y168 = (IntKind.wrap .i64 (0 - y87))))))]) (H2 := [.box [.bool x0.Neg_, lsv (encI .u8) 1 x0.D_, .int .i64 x0.E_], .box [.bool x1.Neg_, lsv (encI .u8) 1 x1.D_, .int .i64 x1.E_], .box [.bool x2.Neg_, lsv (encI .u8) 1 x2.D_, .int .i64 x2.E_]]) (by kernel_rfl) ?_
          refine RJ.caseB 49 (b := (decide (¬ y168 = (IntKind.wrap .i64 (0 - y87))))) (by kernel_rfl) (fun hb171 => ?_) (fun hb171 => ?_)
          · have h172 := condT hb171 h170
            refine RJ.seg 13 [3, 4, 5, 6, 7, 8, 62] (L2 := [(3, .ptr 0 0), (4, .ptr 1 0), (5, .ptr 2 0), (6, .bool false), (7, .bool y1), (8, .int .i64 y87), (62, .bool true)]) (H2 := [.box [.bool x0.Neg_, lsv (encI .u8) 1 x0.D_, .int .i64 x0.E_], .box [.bool x1.Neg_, lsv (encI .u8) 1 x1.D_, .int .i64 x1.E_], .box [.bool x2.Neg_, lsv (encI .u8) 1 x2.D_, .int .i64 x2.E_]]) (by kernel_rfl) ?_
            refine RJ.end (by kernel_rfl) ?_
            obtain rfl := Option.some.inj h172
            exact PJ.cutN [3, 4, 5, 6, 7, 8, 62] (by kernel_rfl) (by kernel_rfl)
          · have h173 := condF hb171 h170
            refine RJ.seg 6 [3, 4, 5, 6, 7, 8, 55] (L2 := [(3, .ptr 0 0), (4, .ptr 1 0), (5, .ptr 2 0), (6, .bool false), (7, .bool y1), (8, .int .i64 y87), (55, .bool (((decide (y87 = 0)) != s99)))]) (H2 := [.box [.bool x0.Neg_, lsv (encI .u8) 1 x0.D_, .int .i64 x0.E_], .box [.bool x1.Neg_, lsv (encI .u8) 1 x1.D_, .int .i64 x1.E_], .box [.bool x2.Neg_, lsv (encI .u8) 1 x2.D_, .int .i64 x2.E_]]) (by kernel_rfl) ?_
            refine RJ.caseB 55 (b := ((decide (y87 = 0)) != s99)) (by kernel_rfl) (fun hb174 => ?_) (fun hb174 => ?_)
            · have h175 := condT hb174 h173
              refine RJ.seg 7 [3, 4, 5, 6, 7, 8, 62] (L2 := [(3, .ptr 0 0), (4, .ptr 1 0), (5, .ptr 2 0), (6, .bool false), (7, .bool y1), (8, .int .i64 y87), (62, .bool true)]) (H2 := [.box [.bool x0.Neg_, lsv (encI .u8) 1 x0.D_, .int .i64 x0.E_], .box [.bool x1.Neg_, lsv (encI .u8) 1 x1.D_, .int .i64 x1.E_], .box [.bool x2.Neg_, lsv (encI .u8) 1 x2.D_, .int .i64 x2.E_]]) (by kernel_rfl) ?_
              refine RJ.end (by kernel_rfl) ?_
              obtain rfl := Option.some.inj h175
              exact PJ.cutN [3, 4, 5, 6, 7, 8, 62] (by kernel_rfl) (by kernel_rfl)
            · have h176 := condF hb174 h173
              refine RJ.seg 4 [3, 4, 5, 6, 7, 8, 59] (L2 := [(3, .ptr 0 0), (4, .ptr 1 0), (5, .ptr 2 0), (6, .bool false), (7, .bool y1), (8, .int .i64 y87), (59, .bool ((decide (y87 < (-1)))))]) (H2 := [.box [.bool x0.Neg_, lsv (encI .u8) 1 x0.D_, .int .i64 x0.E_], .box [.bool x1.Neg_, lsv (encI .u8) 1 x1.D_, .int .i64 x1.E_], .box [.bool x2.Neg_, lsv (encI .u8) 1 x2.D_, .int .i64 x2.E_]]) (by kernel_rfl) ?_
              refine RJ.caseB 59 (b := (decide (y87 < (-1)))) (by kernel_rfl) (fun hb177 => ?_) (fun hb177 => ?_)
              · have h178 := condT hb177 h176
                refine RJ.seg 3 [3, 4, 5, 6, 7, 8, 62] (L2 := [(3, .ptr 0 0), (4, .ptr 1 0), (5, .ptr 2 0), (6, .bool false), (7, .bool y1), (8, .int .i64 y87), (62, .bool true)]) (H2 := [.box [.bool x0.Neg_, lsv (encI .u8) 1 x0.D_, .int .i64 x0.E_], .box [.bool x1.Neg_, lsv (encI .u8) 1 x1.D_, .int .i64 x1.E_], .box [.bool x2.Neg_, lsv (encI .u8) 1 x2.D_, .int .i64 x2.E_]]) (by kernel_rfl) ?_
                refine RJ.end (by kernel_rfl) ?_
                obtain rfl := Option.some.inj h178
                exact PJ.cutN [3, 4, 5, 6, 7, 8, 62] (by kernel_rfl) (by kernel_rfl)
              · have h179 := condF hb177 h176
                refine RJ.seg 3 [3, 4, 5, 6, 7, 8, 62] (L2 := [(3, .ptr 0 0), (4, .ptr 1 0), (5, .ptr 2 0), (6, .bool false), (7, .bool y1), (8, .int .i64 y87), (62, .bool (decide (y87 > 1)))]) (H2 := [.box [.bool x0.Neg_, lsv (encI .u8) 1 x0.D_, .int .i64 x0.E_], .box [.bool x1.Neg_, lsv (encI .u8) 1 x1.D_, .int .i64 x1.E_], .box [.bool x2.Neg_, lsv (encI .u8) 1 x2.D_, .int .i64 x2.E_]]) (by kernel_rfl) ?_
                refine RJ.end (by kernel_rfl) ?_
                obtain rfl := Option.some.inj h179
                exact PJ.cutN [3, 4, 5, 6, 7, 8, 62] (by kernel_rfl) (by kernel_rfl)
        · refine J.caseB 62 (b := s163) (by kernel_rfl) (fun hb180 => ?_) (fun hb180 => ?_)
          · have h181 := condT hb180 h167
            refine K.condT (by kernel_rfl) ?_
            refine K.seq (by kernel_rfl) ?_
            refine K.region (by kernel_rfl) ?_
            refine RJ.seg 1 [3, 4, 5, 6, 7, 8] (L2 := [(3, .ptr 0 0), (4, .ptr 1 0), (5, .ptr 2 0), (6, .bool false), (7, .bool y1), (8, .int .i64 y87)]) (H2 := [.box [.bool x0.Neg_, lsv (encI .u8) 1 x0.D_, .int .i64 x0.E_], .box [.bool x1.Neg_, lsv (encI .u8) 1 x1.D_, .int .i64 x1.E_], .box [.bool x2.Neg_, lsv (encI .u8) 1 x2.D_, .int .i64 x2.E_]]) (by kernel_rfl) ?_
            refine RJ.end (by kernel_rfl) ?_
            refine PJ.next ?_
            refine K.ret (by kernel_rfl) ?_
            obtain rfl := Option.some.inj h181
            have h183 := joinX_inr h149
            refine PJ.cutXr (fun e => nomatch e) ?_
            obtain rfl := Option.some.inj h183
            exact K.ret0 (.inr rfl) hFn hFH hFD (by kernel_rfl) (by kernel_rfl) (by kernel_rfl)
          · have h182 := condF hb180 h167
            refine K.condF (by kernel_rfl) ?_
            refine K.skip (by kernel_rfl) ?_
            obtain rfl := Option.some.inj h182
            exact PJ.cutXl [3, 4, 5, 6, 7, 8] (by kernel_rfl) (by kernel_rfl)
      · subst hs
        have h150 := joinX_inl h149
        obtain ⟨s199, hy201, h203⟩ := bindS h150
        refine K.cutN (by kernel_rfl) (fun (s199 : Bool) => ([(6, .bool s199)], [])) s199 ?_ ?_
        · refine K.region (by kernel_rfl) ?_
          refine RJ.seg 2 [3, 4, 5, 6, 8, 64] (L2 := [(3, .ptr 0 0), (4, .ptr 1 0), (5, .ptr 2 0), (6, .bool false), (8, .int .i64 y87), (64, .bool y1)]) (H2 := [.box [.bool x0.Neg_, lsv (encI .u8) 1 x0.D_, .int .i64 x0.E_], .box [.bool x1.Neg_, lsv (encI .u8) 1 x1.D_, .int .i64 x1.E_], .box [.bool x2.Neg_, lsv (encI .u8) 1 x2.D_, .int .i64 x2.E_]]) (by kernel_rfl) ?_
          refine RJ.caseB 64 (b := y1) (by kernel_rfl) (fun hb204 => ?_) (fun hb204 => ?_)
          · have h205 := condT hb204 hy201
            refine RJ.seg 3 [3, 4, 5, 6, 64, 67] (L2 := [(3, .ptr 0 0), (4, .ptr 1 0), (5, .ptr 2 0), (6, .bool false), (64, .bool true), (67, .bool (decide (y87 > 0)))]) (H2 := [.box [.bool x0.Neg_, lsv (encI .u8) 1 x0.D_, .int .i64 x0.E_], .box [.bool x1.Neg_, lsv (encI .u8) 1 x1.D_, .int .i64 x1.E_], .box [.bool x2.Neg_, lsv (encI .u8) 1 x2.D_, .int .i64 x2.E_]]) (by kernel_rfl) ?_
            refine RJ.caseB 67 (b := (decide (y87 > 0))) (by kernel_rfl) (fun hb207 => ?_) (fun hb207 => ?_)
            · have h208 := condT hb207 h205
              refine RJ.seg 13 [6] (L2 := [(6, .bool true)]) (H2 := [.box [.bool x0.Neg_, lsv (encI .u8) 1 x0.D_, .int .i64 x0.E_], .box [.bool x1.Neg_, lsv (encI .u8) 1 x1.D_, .int .i64 x1.E_], .box [.bool x2.Neg_, lsv (encI .u8) 1 x2.D_, .int .i64 x2.E_]]) (by kernel_rfl) ?_
              refine RJ.end (by kernel_rfl) ?_
              obtain rfl := Option.some.inj h208
              refine PJ.wk (Wk.sel (L2 := [(6, .bool true)]) (H2 := []) 0 (by rw [hFH]; rfl) hFD [] (by kernel_rfl) (by kernel_rfl) (by decide) (by kernel_rfl) (by kernel_rfl) (by kernel_rfl) (by kernel_rfl)) ?_
              exact PJ.cutN [6] (by kernel_rfl) (by kernel_rfl)
            · have h209 := condF hb207 h205
              refine RJ.seg 2 [3, 5, 6, 64, 67, 68, 69] (L2 := [(3, .ptr 0 0), (5, .ptr 2 0), (6, .bool false), (64, .bool true), (67, .bool false), (68, .agg [.bool x1.Neg_, lsv (encI .u8) 1 x1.D_, .int .i64 x1.E_]), (69, .agg [.bool x2.Neg_, lsv (encI .u8) 1 x2.D_, .int .i64 x2.E_])]) (H2 := [.box [.bool x0.Neg_, lsv (encI .u8) 1 x0.D_, .int .i64 x0.E_], .box [.bool x1.Neg_, lsv (encI .u8) 1 x1.D_, .int .i64 x1.E_], .box [.bool x2.Neg_, lsv (encI .u8) 1 x2.D_, .int .i64 x2.E_]]) (by kernel_rfl) ?_
              obtain ⟨y210, hy211, h212⟩ := bindS h209
              refine RJ.call0 (d := (some 70)) (f := 17) (args := [.agg [.bool x1.Neg_, lsv (encI .u8) 1 x1.D_, .int .i64 x1.E_], .agg [.bool x2.Neg_, lsv (encI .u8) 1 x2.D_, .int .i64 x2.E_]]) (v := .int .i64 y210) (tr2 := []) (by kernel_rfl) (by kernel_rfl) (.cons (Le.refl _) (.cons (Le.refl _) .nil)) (dec_Cmp_ok hy211) (by kernel_rfl) ?_
              refine RJ.seg 3 [3, 5, 6, 64, 73] (L2 := [(3, .ptr 0 0), (5, .ptr 2 0), (6, .bool false), (64, .bool true), (73, .bool (decide (y210 > 0)))]) (H2 := [.box [.bool x0.Neg_, lsv (encI .u8) 1 x0.D_, .int .i64 x0.E_], .box [.bool x1.Neg_, lsv (encI .u8) 1 x1.D_, .int .i64 x1.E_], .box [.bool x2.Neg_, lsv (encI .u8) 1 x2.D_, .int .i64 x2.E_]]) (by kernel_rfl) ?_
              refine RJ.caseB 73 (b := (decide (y210 > 0))) (by kernel_rfl) (fun hb213 => ?_) (fun hb213 => ?_)
              · have h214 := condT hb213 h212
                refine RJ.seg 7 [6] (L2 := [(6, .bool true)]) (H2 := [.box [.bool x0.Neg_, lsv (encI .u8) 1 x0.D_, .int .i64 x0.E_], .box [.bool x1.Neg_, lsv (encI .u8) 1 x1.D_, .int .i64 x1.E_], .box [.bool x2.Neg_, lsv (encI .u8) 1 x2.D_, .int .i64 x2.E_]]) (by kernel_rfl) ?_
                refine RJ.end (by kernel_rfl) ?_
                obtain rfl := Option.some.inj h214
                refine PJ.wk (Wk.sel (L2 := [(6, .bool true)]) (H2 := []) 0 (by rw [hFH]; rfl) hFD [] (by kernel_rfl) (by kernel_rfl) (by decide) (by kernel_rfl) (by kernel_rfl) (by kernel_rfl) (by kernel_rfl)) ?_
                exact PJ.cutN [6] (by kernel_rfl) (by kernel_rfl)
              · have h215 := condF hb213 h212
                refine RJ.seg 2 [6, 64, 73, 74, 75] (L2 := [(6, .bool false), (64, .bool true), (73, .bool false), (74, .agg [.bool x0.Neg_, lsv (encI .u8) 1 x0.D_, .int .i64 x0.E_]), (75, .agg [.bool x2.Neg_, lsv (encI .u8) 1 x2.D_, .int .i64 x2.E_])]) (H2 := [.box [.bool x0.Neg_, lsv (encI .u8) 1 x0.D_, .int .i64 x0.E_], .box [.bool x1.Neg_, lsv (encI .u8) 1 x1.D_, .int .i64 x1.E_], .box [.bool x2.Neg_, lsv (encI .u8) 1 x2.D_, .int .i64 x2.E_]]) (by kernel_rfl) ?_
                obtain ⟨y216, hy217, h218⟩ := bindS h215
                refine RJ.call0 (d := (some 76)) (f := 17) (args := [.agg [.bool x0.Neg_, lsv (encI .u8) 1 x0.D_, .int .i64 x0.E_], .agg [.bool x2.Neg_, lsv (encI .u8) 1 x2.D_, .int .i64 x2.E_]]) (v := .int .i64 y216) (tr2 := []) (by kernel_rfl) (by kernel_rfl) (.cons (Le.refl _) (.cons (Le.refl _) .nil)) (dec_Cmp_ok hy217) (by kernel_rfl) ?_
                refine RJ.seg 4 [6] (L2 := [(6, .bool (decide (y216 ≤ 0)))]) (H2 := [.box [.bool x0.Neg_, lsv (encI .u8) 1 x0.D_, .int .i64 x0.E_], .box [.bool x1.Neg_, lsv (encI .u8) 1 x1.D_, .int .i64 x1.E_], .box [.bool x2.Neg_, lsv (encI .u8) 1 x2.D_, .int .i64 x2.E_]]) (by kernel_rfl) ?_
                refine RJ.end (by kernel_rfl) ?_
                obtain rfl := Option.some.inj h218
                refine PJ.wk (Wk.sel (L2 := [(6, .bool (decide (y216 ≤ 0)))]) (H2 := []) 0 (by rw [hFH]; rfl) hFD [] (by kernel_rfl) (by kernel_rfl) (by decide) (by kernel_rfl) (by kernel_rfl) (by kernel_rfl) (by kernel_rfl)) ?_
                exact PJ.cutN [6] (by kernel_rfl) (by kernel_rfl)
          · have h206 := condF hb204 hy201
            refine RJ.seg 16 [6] (L2 := [(6, .bool false)]) (H2 := [.box [.bool x0.Neg_, lsv (encI .u8) 1 x0.D_, .int .i64 x0.E_], .box [.bool x1.Neg_, lsv (encI .u8) 1 x1.D_, .int .i64 x1.E_], .box [.bool x2.Neg_, lsv (encI .u8) 1 x2.D_, .int .i64 x2.E_]]) (by kernel_rfl) ?_
            refine RJ.end (by kernel_rfl) ?_
            obtain rfl := Option.some.inj h206
            refine PJ.wk (Wk.sel (L2 := [(6, .bool false)]) (H2 := []) 0 (by rw [hFH]; rfl) hFD [] (by kernel_rfl) (by kernel_rfl) (by decide) (by kernel_rfl) (by kernel_rfl) (by kernel_rfl) (by kernel_rfl)) ?_
            exact PJ.cutN [6] (by kernel_rfl) (by kernel_rfl)
        · refine K.ret (by kernel_rfl) ?_
          obtain rfl := Option.some.inj h203
          exact K.ret0 (.inr rfl) hFn hFH hFD (by kernel_rfl) (by kernel_rfl) (by kernel_rfl)

structure St38 where
  A_ : St23
  B_ : St23
  N_ : Int
  M_ : Int
  deriving Inhabited, DecidableEq
def encSt38 (x : St38) : List SV := [.bool x.A_.Neg_, lsv (encI .u8) 1 x.A_.D_, .int .i64 x.A_.E_, .bool x.B_.Neg_, lsv (encI .u8) 1 x.B_.D_, .int .i64 x.B_.E_, .int .i16 x.N_, .int .i16 x.M_]
theorem encSt38_len (x : St38) : (encSt38 x).length = 8 := rfl

def dec_Shift (x0 : St23) (x1 : Int) : Option (St23 × Int) :=
  (Option.bind (Option.bind (bif (decide (x1 < (-1099511627776))) then (some true) else (some (decide (x1 > 1099511627776)))) fun (s24 : Bool) => (bif s24 then (some (.inr ((⟨false, ([] : List Int), 0⟩ : St23), 11))) else (some (.inl ())))) (joinX fun (s16 : Unit) => (Option.bind (slices_Clone x0.D_) fun y36 => (bif (decide ((y36.length : Int) = 0)) then (some ((⟨x0.Neg_, y36, x0.E_⟩ : St23), 0)) else (Option.bind (Option.bind (bif (decide ((IntKind.wrap .i64 (x0.E_ + x1)) < (-1000))) then (some true) else (some ((decide ((IntKind.wrap .i64 (x0.E_ + x1)) > 1000))))) fun (s65 : Bool) => (bif s65 then (some (.inr ((⟨false, ([] : List Int), 0⟩ : St23), 11))) else (some (.inl ())))) (joinX fun (s57 : Unit) => (some ((⟨x0.Neg_, y36, (IntKind.wrap .i64 (x0.E_ + x1))⟩ : St23), 0))))))))
theorem dec_Shift_ok {x0 : St23} {x1 : Int} {r : St23 × Int} (h : dec_Shift x0 x1 = some r) : SC Tryd.prog 18 [.agg [.bool x0.Neg_, lsv (encI .u8) 1 x0.D_, .int .i64 x0.E_], .int .i64 x1] [] (.tup [.agg [.bool r.1.Neg_, lsv (encI .u8) 1 r.1.D_, .int .i64 r.1.E_], .int .i64 r.2]) [] := by
  refine K.fn (fn := Tryd.f18) (by kernel_rfl) (by kernel_rfl) (by kernel_rfl) (by kernel_rfl) (by kernel_rfl) (fun F hFn hFH hFD => ?_)
  unfold dec_Shift at h
  refine K.seq (by kernel_rfl) ?_
  refine K.region (by kernel_rfl) ?_
  refine RJ.seg 3 [1, 2, 4, 5] (L2 := [(1, .int .i64 x1), (2, .ptr 0 0), (4, .ptr 1 0), (5, .int .i64 0)]) (H2 := [.box [.bool x0.Neg_, lsv (encI .u8) 1 x0.D_, .int .i64 x0.E_], .box [.bool false, .nl, .int .i64 0]]) (by kernel_rfl) ?_
  refine RJ.end (by kernel_rfl) ?_
  refine PJ.next ?_
  obtain ⟨y17, hy18, h19⟩ := bindS h
  refine K.cutX (by kernel_rfl) (fun (s16 : Unit) => ([(1, .int .i64 x1), (2, .ptr 0 0), (4, .ptr 1 0), (5, .int .i64 0)], [.box [.bool x0.Neg_, lsv (encI .u8) 1 x0.D_, .int .i64 x0.E_], .box [.bool false, .nl, .int .i64 0]])) y17 ?_ (fun s16 hs => ?_)
  · obtain ⟨s24, hy26, h28⟩ := bindS hy18
    refine K.cutN (by kernel_rfl) (fun (s24 : Bool) => ([(1, .int .i64 x1), (2, .ptr 0 0), (4, .ptr 1 0), (5, .int .i64 0), (11, .bool s24)], [.box [.bool x0.Neg_, lsv (encI .u8) 1 x0.D_, .int .i64 x0.E_], .box [.bool false, .nl, .int .i64 0]])) s24 ?_ ?_
    · refine K.region (by kernel_rfl) ?_
      refine RJ.seg 3 [1, 2, 4, 5, 8] (L2 := [(1, .int .i64 x1), (2, .ptr 0 0), (4, .ptr 1 0), (5, .int .i64 0), (8, .bool ((decide (x1 < (-1099511627776)))))]) (H2 := [.box [.bool x0.Neg_, lsv (encI .u8) 1 x0.D_, .int .i64 x0.E_], .box [.bool false, .nl, .int .i64 0]]) (by kernel_rfl) ?_
      refine RJ.caseB 8 (b := (decide (x1 < (-1099511627776)))) (by kernel_rfl) (fun hb29 => ?_) (fun hb29 => ?_)
      · have h30 := condT hb29 hy26
        refine RJ.seg 3 [1, 2, 4, 5, 11] (L2 := [(1, .int .i64 x1), (2, .ptr 0 0), (4, .ptr 1 0), (5, .int .i64 0), (11, .bool true)]) (H2 := [.box [.bool x0.Neg_, lsv (encI .u8) 1 x0.D_, .int .i64 x0.E_], .box [.bool false, .nl, .int .i64 0]]) (by kernel_rfl) ?_
        refine RJ.end (by kernel_rfl) ?_
        obtain rfl := Option.some.inj h30
        exact PJ.cutN [1, 2, 4, 5, 11] (by kernel_rfl) (by kernel_rfl)
      · have h31 := condF hb29 hy26
        refine RJ.seg 3 [1, 2, 4, 5, 11] (L2 := [(1, .int .i64 x1), (2, .ptr 0 0), (4, .ptr 1 0), (5, .int .i64 0), (11, .bool (decide (x1 > 1099511627776)))]) (H2 := [.box [.bool x0.Neg_, lsv (encI .u8) 1 x0.D_, .int .i64 x0.E_], .box [.bool false, .nl, .int .i64 0]]) (by kernel_rfl) ?_
        refine RJ.end (by kernel_rfl) ?_
        obtain rfl := Option.some.inj h31
        exact PJ.cutN [1, 2, 4, 5, 11] (by kernel_rfl) (by kernel_rfl)
    · refine J.caseB 11 (b := s24) (by kernel_rfl) (fun hb32 => ?_) (fun hb32 => ?_)
      · have h33 := condT hb32 h28
        refine K.condT (by kernel_rfl) ?_
        refine K.seq (by kernel_rfl) ?_
        refine K.region (by kernel_rfl) ?_
        refine RJ.seg 3 [1, 2, 4, 5] (L2 := [(1, .int .i64 x1), (2, .ptr 0 0), (4, .ptr 1 0), (5, .int .i64 11)]) (H2 := [.box [.bool x0.Neg_, lsv (encI .u8) 1 x0.D_, .int .i64 x0.E_], .box [.bool false, .nl, .int .i64 0]]) (by kernel_rfl) ?_
        refine RJ.end (by kernel_rfl) ?_
        refine PJ.next ?_
        refine K.ret (by kernel_rfl) ?_
        obtain rfl := Option.some.inj h33
        have h35 := joinX_inr h19
        refine PJ.cutXr (fun e => nomatch e) ?_
        obtain rfl := Option.some.inj h35
        refine PJ.res (v1 := .tup [.agg [.bool false, .nl, .int .i64 0], .int .i64 11]) (Le.tup (.cons (Le.agg (.cons (Le.refl _) (.cons (Le.nl _) (.cons (Le.refl _) .nil)))) (.cons (Le.refl _) .nil))) ?_
        exact K.ret0 (.inr rfl) hFn hFH hFD (by kernel_rfl) (by kernel_rfl) (by kernel_rfl)
      · have h34 := condF hb32 h28
        refine K.condF (by kernel_rfl) ?_
        refine K.skip (by kernel_rfl) ?_
        obtain rfl := Option.some.inj h34
        exact PJ.cutXl [1, 2, 4, 5] (by kernel_rfl) (by kernel_rfl)
  · subst hs
    have h20 := joinX_inl h19
    refine K.seq (by kernel_rfl) ?_
    refine K.region (by kernel_rfl) ?_
    refine RJ.seg 2 [1, 2, 4, 5, 14] (L2 := [(1, .int .i64 x1), (2, .ptr 0 0), (4, .ptr 1 0), (5, .int .i64 0), (14, lsv (encI .u8) 1 x0.D_)]) (H2 := [.box [.bool x0.Neg_, lsv (encI .u8) 1 x0.D_, .int .i64 x0.E_], .box [.bool false, .nl, .int .i64 0]]) (by kernel_rfl) ?_
    obtain ⟨y36, hy37, h38⟩ := bindS h20
    refine RJ.call0 (d := (some 15)) (f := 33) (args := [lsv (encI .u8) 1 x0.D_]) (v := lsv (encI .u8) 1 y36) (tr2 := []) (by kernel_rfl) (by kernel_rfl) (.cons (Le.refl _) .nil) (slices_Clone_ok hy37) (by kernel_rfl) ?_
    refine RJ.seg 2 [1, 2, 4, 5] (L2 := [(1, .int .i64 x1), (2, .ptr 0 0), (4, .ptr 1 0), (5, .int .i64 0)]) (H2 := [.box [.bool x0.Neg_, lsv (encI .u8) 1 y36, .int .i64 x0.E_], .box [.bool false, .nl, .int .i64 0]]) (by kernel_rfl) ?_
    refine RJ.end (by kernel_rfl) ?_
    refine PJ.next ?_
    refine K.seq (by kernel_rfl) ?_
    refine K.seq (by kernel_rfl) ?_
    refine K.region (by kernel_rfl) ?_
    refine RJ.seg 4 [1, 2, 4, 5, 20] (L2 := [(1, .int .i64 x1), (2, .ptr 0 0), (4, .ptr 1 0), (5, .int .i64 0), (20, .bool ((decide ((y36.length : Int) = 0))))]) (H2 := [.box [.bool x0.Neg_, lsv (encI .u8) 1 y36, .int .i64 x0.E_], .box [.bool false, .nl, .int .i64 0]]) (by kernel_rfl) ?_
    refine RJ.end (by kernel_rfl) ?_
    refine PJ.next ?_
    refine J.caseB 20 (b := (decide ((y36.length : Int) = 0))) (by kernel_rfl) (fun hb39 => ?_) (fun hb39 => ?_)
    · have h40 := condT hb39 h38
      refine K.condT (by kernel_rfl) ?_
      refine K.seq (by kernel_rfl) ?_
      refine K.region (by kernel_rfl) ?_
      refine RJ.seg 3 [1, 2, 4, 5] (L2 := [(1, .int .i64 x1), (2, .ptr 0 0), (4, .ptr 1 0), (5, .int .i64 0)]) (H2 := [.box [.bool x0.Neg_, lsv (encI .u8) 1 y36, .int .i64 x0.E_], .box [.bool x0.Neg_, lsv (encI .u8) 1 y36, .int .i64 x0.E_]]) (by kernel_rfl) ?_
      refine RJ.end (by kernel_rfl) ?_
      refine PJ.next ?_
      refine K.ret (by kernel_rfl) ?_
      refine PJ.passRet ?_
      obtain rfl := Option.some.inj h40
      exact K.ret0 (.inr rfl) hFn hFH hFD (by kernel_rfl) (by kernel_rfl) (by kernel_rfl)
    · have h41 := condF hb39 h38
      refine K.condF (by kernel_rfl) ?_
      refine K.skip (by kernel_rfl) ?_
      refine PJ.next ?_
      refine K.seq (by kernel_rfl) ?_
      refine K.region (by kernel_rfl) ?_
      refine RJ.seg 6 [2, 4, 5] (L2 := [(2, .ptr 0 0), (4, .ptr 1 0), (5, .int .i64 0)]) (H2 := [.box [.bool x0.Neg_, lsv (encI .u8) 1 y36, .int .i64 (IntKind.wrap .i64 (x0.E_ + x1))], .box [.bool false, .nl, .int .i64 0]]) (by kernel_rfl) ?_
      refine RJ.end (by kernel_rfl) ?_
      refine PJ.next ?_
      obtain ⟨y58, hy59, h60⟩ := bindS h41
      refine K.cutX (by kernel_rfl) (fun (s57 : Unit) => ([(2, .ptr 0 0), (4, .ptr 1 0), (5, .int .i64 0)], [.box [.bool x0.Neg_, lsv (encI .u8) 1 y36, .int .i64 (IntKind.wrap .i64 (x0.E_ + x1))], .box [.bool false, .nl, .int .i64 0]])) y58 ?_ (fun s57 hs => ?_)
      · obtain ⟨s65, hy67, h69⟩ := bindS hy59
        refine K.cutN (by kernel_rfl) (fun (s65 : Bool) => ([(2, .ptr 0 0), (4, .ptr 1 0), (5, .int .i64 0), (34, .bool s65)], [.box [.bool x0.Neg_, lsv (encI .u8) 1 y36, .int .i64 (IntKind.wrap .i64 (x0.E_ + x1))], .box [.bool false, .nl, .int .i64 0]])) s65 ?_ ?_
        · refine K.region (by kernel_rfl) ?_
          refine RJ.seg 4 [2, 4, 5, 30] (L2 := [(2, .ptr 0 0), (4, .ptr 1 0), (5, .int .i64 0), (30, .bool ((decide ((IntKind.wrap .i64 (x0.E_ + x1)) < (-1000)))))]) (H2 := [.box [.bool x0.Neg_, lsv (encI .u8) 1 y36, .int .i64 (IntKind.wrap .i64 (x0.E_ + x1))], .box [.bool false, .nl, .int .i64 0]]) (by kernel_rfl) ?_
          refine RJ.caseB 30 (b := (decide ((IntKind.wrap .i64 (x0.E_ + x1)) < (-1000)))) (by kernel_rfl) (fun hb70 => ?_) (fun hb70 => ?_)
          · have h71 := condT hb70 hy67
            refine RJ.seg 4 [2, 4, 5, 34] (L2 := [(2, .ptr 0 0), (4, .ptr 1 0), (5, .int .i64 0), (34, .bool true)]) (H2 := [.box [.bool x0.Neg_, lsv (encI .u8) 1 y36, .int .i64 (IntKind.wrap .i64 (x0.E_ + x1))], .box [.bool false, .nl, .int .i64 0]]) (by kernel_rfl) ?_
            refine RJ.end (by kernel_rfl) ?_
            obtain rfl := Option.some.inj h71
            exact PJ.cutN [2, 4, 5, 34] (by kernel_rfl) (by kernel_rfl)
          · have h72 := condF hb70 hy67
            refine RJ.seg 4 [2, 4, 5, 34] (L2 := [(2, .ptr 0 0), (4, .ptr 1 0), (5, .int .i64 0), (34, .bool ((decide ((IntKind.wrap .i64 (x0.E_ + x1)) > 1000))))]) (H2 := [.box [.bool x0.Neg_, lsv (encI .u8) 1 y36, .int .i64 (IntKind.wrap .i64 (x0.E_ + x1))], .box [.bool false, .nl, .int .i64 0]]) (by kernel_rfl) ?_
            refine RJ.end (by kernel_rfl) ?_
            obtain rfl := Option.some.inj h72
            exact PJ.cutN [2, 4, 5, 34] (by kernel_rfl) (by kernel_rfl)
        · refine J.caseB 34 (b := s65) (by kernel_rfl) (fun hb73 => ?_) (fun hb73 => ?_)
          · have h74 := condT hb73 h69
            refine K.condT (by kernel_rfl) ?_
            refine K.seq (by kernel_rfl) ?_
            refine K.region (by kernel_rfl) ?_
            refine RJ.seg 3 [2, 4, 5] (L2 := [(2, .ptr 0 0), (4, .ptr 1 0), (5, .int .i64 11)]) (H2 := [.box [.bool x0.Neg_, lsv (encI .u8) 1 y36, .int .i64 (IntKind.wrap .i64 (x0.E_ + x1))], .box [.bool false, .nl, .int .i64 0]]) (by kernel_rfl) ?_
            refine RJ.end (by kernel_rfl) ?_
            refine PJ.next ?_
            refine K.ret (by kernel_rfl) ?_
            obtain rfl := Option.some.inj h74
            have h76 := joinX_inr h60
            refine PJ.cutXr (fun e => nomatch e) ?_
            obtain rfl := Option.some.inj h76
            refine PJ.res (v1 := .tup [.agg [.bool false, .nl, .int .i64 0], .int .i64 11]) (Le.tup (.cons (Le.agg (.cons (Le.refl _) (.cons (Le.nl _) (.cons (Le.refl _) .nil)))) (.cons (Le.refl _) .nil))) ?_
            exact K.ret0 (.inr rfl) hFn hFH hFD (by kernel_rfl) (by kernel_rfl) (by kernel_rfl)
          · have h75 := condF hb73 h69
            refine K.condF (by kernel_rfl) ?_
            refine K.skip (by kernel_rfl) ?_
            obtain rfl := Option.some.inj h75
            exact PJ.cutXl [2, 4, 5] (by kernel_rfl) (by kernel_rfl)
      · subst hs
        have h61 := joinX_inl h60
        refine K.seq (by kernel_rfl) ?_
        refine K.region (by kernel_rfl) ?_
        refine RJ.seg 3 [4, 5] (L2 := [(4, .ptr 1 0), (5, .int .i64 0)]) (H2 := [.box [.bool x0.Neg_, lsv (encI .u8) 1 y36, .int .i64 (IntKind.wrap .i64 (x0.E_ + x1))], .box [.bool x0.Neg_, lsv (encI .u8) 1 y36, .int .i64 (IntKind.wrap .i64 (x0.E_ + x1))]]) (by kernel_rfl) ?_
        refine RJ.end (by kernel_rfl) ?_
        refine PJ.next ?_
        refine K.ret (by kernel_rfl) ?_
        obtain rfl := Option.some.inj h61
        exact K.ret0 (.inr rfl) hFn hFH hFD (by kernel_rfl) (by kernel_rfl) (by kernel_rfl)

def exerguelaw05_DecShifts (x0 : St38) : Option (Bool) :=
  (Option.bind exerguelaw05_shown fun y1 => (Option.bind (Option.bind (Option.bind (exergueref05_Right x0.A_) fun y50 => (bif (!y50) then (some true) else (Option.bind (exergueref05_Right x0.B_) fun y56 => (some (!y56))))) fun (s45 : Bool) => (bif s45 then (some (.inr y1)) else (some (.inl ())))) (joinX fun (s31 : Unit) => (Option.bind (dec_Shift x0.A_ (IntKind.wrap .i64 x0.N_)) fun y63 => (Option.bind (dec_Shift x0.B_ (IntKind.wrap .i64 x0.N_)) fun y66 => (Option.bind (Option.bind (bif (decide (¬ y63.2 = 0)) then (some true) else (some (decide (¬ y66.2 = 0)))) fun (s92 : Bool) => (bif s92 then (some (.inr y1)) else (some (.inl ())))) (joinX fun (s84 : Unit) => (Option.bind (dec_Shift y63.1 ((IntKind.wrap .i64 (0 - (IntKind.wrap .i64 x0.N_))))) fun y104 => (Option.bind (dec_Shift y63.1 (IntKind.wrap .i64 x0.M_)) fun y107 => (Option.bind (dec_Shift x0.A_ ((IntKind.wrap .i64 ((IntKind.wrap .i64 x0.N_) + (IntKind.wrap .i64 x0.M_))))) fun y110 => (Option.bind (bif y1 then (Option.bind (exergueref05_Right y63.1) fun y160 => (bif y160 then (bif (decide (y104.2 = 0)) then (Option.bind (exergueref05_Same y104.1 x0.A_) fun y169 => (bif y169 then (bif (decide (y107.2 = y110.2)) then (Option.bind (exergueref05_Same y110.1 y107.1) fun y178 => (bif y178 then (Option.bind (dec_Cmp y63.1 y66.1) fun y184 => (Option.bind (dec_Cmp x0.A_ x0.B_) fun y187 => (bif (decide (y184 = y187)) then (Option.bind (exergueref01_Row y63.1.D_ x0.A_.D_) fun y193 => (some y193)) else (some false)))) else (some false))) else (some false)) else (some false))) else (some false)) else (some false))) else (some false)) fun (s152 : Bool) => (some s152))))))))))))
theorem exerguelaw05_DecShifts_ok {x0 : St38} {r : Bool} (h : exerguelaw05_DecShifts x0 = some r) : SC Tryd.prog 6 [.agg [.bool x0.A_.Neg_, lsv (encI .u8) 1 x0.A_.D_, .int .i64 x0.A_.E_, .bool x0.B_.Neg_, lsv (encI .u8) 1 x0.B_.D_, .int .i64 x0.B_.E_, .int .i16 x0.N_, .int .i16 x0.M_]] [] (.bool r) [] := by
  refine K.fn (fn := Tryd.f6) (by kernel_rfl) (by kernel_rfl) (by kernel_rfl) (by kernel_rfl) (by kernel_rfl) (fun F hFn hFH hFD => ?_)
  unfold exerguelaw05_DecShifts at h
  refine K.seq (by kernel_rfl) ?_
  refine K.region (by kernel_rfl) ?_
  refine RJ.seg 2 [1, 2] (L2 := [(1, .ptr 0 0), (2, .bool false)]) (H2 := [.box [.bool x0.A_.Neg_, lsv (encI .u8) 1 x0.A_.D_, .int .i64 x0.A_.E_, .bool x0.B_.Neg_, lsv (encI .u8) 1 x0.B_.D_, .int .i64 x0.B_.E_, .int .i16 x0.N_, .int .i16 x0.M_]]) (by kernel_rfl) ?_
  refine RJ.end (by kernel_rfl) ?_
  refine PJ.next ?_
  refine K.seq (by kernel_rfl) ?_
  refine K.region (by kernel_rfl) ?_
  refine RJ.seg 4 [1, 2, 3] (L2 := [(1, .ptr 0 0), (2, .bool false), (3, .ptr 1 0)]) (H2 := [.box [.bool x0.A_.Neg_, lsv (encI .u8) 1 x0.A_.D_, .int .i64 x0.A_.E_, .bool x0.B_.Neg_, lsv (encI .u8) 1 x0.B_.D_, .int .i64 x0.B_.E_, .int .i16 x0.N_, .int .i16 x0.M_], .box [.bool x0.A_.Neg_, lsv (encI .u8) 1 x0.A_.D_, .int .i64 x0.A_.E_]]) (by kernel_rfl) ?_
  refine RJ.end (by kernel_rfl) ?_
  refine PJ.next ?_
  refine K.seq (by kernel_rfl) ?_
  refine K.region (by kernel_rfl) ?_
  refine RJ.seg 4 [1, 2, 3, 4] (L2 := [(1, .ptr 0 0), (2, .bool false), (3, .ptr 1 0), (4, .ptr 2 0)]) (H2 := [.box [.bool x0.A_.Neg_, lsv (encI .u8) 1 x0.A_.D_, .int .i64 x0.A_.E_, .bool x0.B_.Neg_, lsv (encI .u8) 1 x0.B_.D_, .int .i64 x0.B_.E_, .int .i16 x0.N_, .int .i16 x0.M_], .box [.bool x0.A_.Neg_, lsv (encI .u8) 1 x0.A_.D_, .int .i64 x0.A_.E_], .box [.bool x0.B_.Neg_, lsv (encI .u8) 1 x0.B_.D_, .int .i64 x0.B_.E_]]) (by kernel_rfl) ?_
  refine RJ.end (by kernel_rfl) ?_
  refine PJ.next ?_
  refine K.seq (by kernel_rfl) ?_
  refine K.region (by kernel_rfl) ?_
  refine RJ.seg 3 [1, 2, 3, 4, 5] (L2 := [(1, .ptr 0 0), (2, .bool false), (3, .ptr 1 0), (4, .ptr 2 0), (5, .int .i16 x0.N_)]) (H2 := [.box [.bool x0.A_.Neg_, lsv (encI .u8) 1 x0.A_.D_, .int .i64 x0.A_.E_, .bool x0.B_.Neg_, lsv (encI .u8) 1 x0.B_.D_, .int .i64 x0.B_.E_, .int .i16 x0.N_, .int .i16 x0.M_], .box [.bool x0.A_.Neg_, lsv (encI .u8) 1 x0.A_.D_, .int .i64 x0.A_.E_], .box [.bool x0.B_.Neg_, lsv (encI .u8) 1 x0.B_.D_, .int .i64 x0.B_.E_]]) (by kernel_rfl) ?_
  refine RJ.end (by kernel_rfl) ?_
  refine PJ.next ?_
  refine K.seq (by kernel_rfl) ?_
  refine K.region (by kernel_rfl) ?_
  refine RJ.seg 3 [2, 3, 4, 5, 6] (L2 := [(2, .bool false), (3, .ptr 1 0), (4, .ptr 2 0), (5, .int .i16 x0.N_), (6, .int .i16 x0.M_)]) (H2 := [.box [.bool x0.A_.Neg_, lsv (encI .u8) 1 x0.A_.D_, .int .i64 x0.A_.E_, .bool x0.B_.Neg_, lsv (encI .u8) 1 x0.B_.D_, .int .i64 x0.B_.E_, .int .i16 x0.N_, .int .i16 x0.M_], .box [.bool x0.A_.Neg_, lsv (encI .u8) 1 x0.A_.D_, .int .i64 x0.A_.E_], .box [.bool x0.B_.Neg_, lsv (encI .u8) 1 x0.B_.D_, .int .i64 x0.B_.E_]]) (by kernel_rfl) ?_
  refine RJ.end (by kernel_rfl) ?_
  refine PJ.next ?_
  refine K.seq (by kernel_rfl) ?_
  refine K.region (by kernel_rfl) ?_
  obtain ⟨y1, hy2, h3⟩ := bindS h
  refine RJ.call0 (d := (some 26)) (f := 10) (args := []) (v := .bool y1) (tr2 := []) (by kernel_rfl) (by kernel_rfl) .nil (exerguelaw05_shown_ok hy2) (by kernel_rfl) ?_
  refine RJ.seg 1 [2, 3, 4, 5, 6, 7] (L2 := [(2, .bool false), (3, .ptr 1 0), (4, .ptr 2 0), (5, .int .i16 x0.N_), (6, .int .i16 x0.M_), (7, .bool y1)]) (H2 := [.box [.bool x0.A_.Neg_, lsv (encI .u8) 1 x0.A_.D_, .int .i64 x0.A_.E_, .bool x0.B_.Neg_, lsv (encI .u8) 1 x0.B_.D_, .int .i64 x0.B_.E_, .int .i16 x0.N_, .int .i16 x0.M_], .box [.bool x0.A_.Neg_, lsv (encI .u8) 1 x0.A_.D_, .int .i64 x0.A_.E_], .box [.bool x0.B_.Neg_, lsv (encI .u8) 1 x0.B_.D_, .int .i64 x0.B_.E_]]) (by kernel_rfl) ?_
  refine RJ.end (by kernel_rfl) ?_
  refine PJ.next ?_
  obtain ⟨y32, hy33, h34⟩ := bindS h3
  refine K.cutX (by kernel_rfl) (fun (s31 : Unit) => ([(2, .bool false), (3, .ptr 0 0), (4, .ptr 1 0), (5, .int .i16 x0.N_), (6, .int .i16 x0.M_), (7, .bool y1)], [.box [.bool x0.A_.Neg_, lsv (encI .u8) 1 x0.A_.D_, .int .i64 x0.A_.E_], .box [.bool x0.B_.Neg_, lsv (encI .u8) 1 x0.B_.D_, .int .i64 x0.B_.E_]])) y32 ?_ (fun s31 hs => ?_)
  · obtain ⟨s45, hy47, h49⟩ := bindS hy33
    refine K.cutN (by kernel_rfl) (fun (s45 : Bool) => ([(2, .bool false), (3, .ptr 0 0), (4, .ptr 1 0), (5, .int .i16 x0.N_), (6, .int .i16 x0.M_), (7, .bool y1), (34, .bool s45)], [.box [.bool x0.A_.Neg_, lsv (encI .u8) 1 x0.A_.D_, .int .i64 x0.A_.E_], .box [.bool x0.B_.Neg_, lsv (encI .u8) 1 x0.B_.D_, .int .i64 x0.B_.E_]])) s45 ?_ ?_
    · refine K.region (by kernel_rfl) ?_
      refine RJ.seg 1 [2, 3, 4, 5, 6, 7, 27] (L2 := [(2, .bool false), (3, .ptr 1 0), (4, .ptr 2 0), (5, .int .i16 x0.N_), (6, .int .i16 x0.M_), (7, .bool y1), (27, .agg [.bool x0.A_.Neg_, lsv (encI .u8) 1 x0.A_.D_, .int .i64 x0.A_.E_])]) (H2 := [.box [.bool x0.A_.Neg_, lsv (encI .u8) 1 x0.A_.D_, .int .i64 x0.A_.E_, .bool x0.B_.Neg_, lsv (encI .u8) 1 x0.B_.D_, .int .i64 x0.B_.E_, .int .i16 x0.N_, .int .i16 x0.M_], .box [.bool x0.A_.Neg_, lsv (encI .u8) 1 x0.A_.D_, .int .i64 x0.A_.E_], .box [.bool x0.B_.Neg_, lsv (encI .u8) 1 x0.B_.D_, .int .i64 x0.B_.E_]]) (by kernel_rfl) ?_
      obtain ⟨y50, hy51, h52⟩ := bindS hy47
      refine RJ.call0 (d := (some 28)) (f := 14) (args := [.agg [.bool x0.A_.Neg_, lsv (encI .u8) 1 x0.A_.D_, .int .i64 x0.A_.E_]]) (v := .bool y50) (tr2 := []) (by kernel_rfl) (by kernel_rfl) (.cons (Le.refl _) .nil) (exergueref05_Right_ok hy51) (by kernel_rfl) ?_
      refine RJ.seg 2 [2, 3, 4, 5, 6, 7, 30] (L2 := [(2, .bool false), (3, .ptr 1 0), (4, .ptr 2 0), (5, .int .i16 x0.N_), (6, .int .i16 x0.M_), (7, .bool y1), (30, .bool (!y50))]) (H2 := [.box [.bool x0.A_.Neg_, lsv (encI .u8) 1 x0.A_.D_, .int .i64 x0.A_.E_, .bool x0.B_.Neg_, lsv (encI .u8) 1 x0.B_.D_, .int .i64 x0.B_.E_, .int .i16 x0.N_, .int .i16 x0.M_], .box [.bool x0.A_.Neg_, lsv (encI .u8) 1 x0.A_.D_, .int .i64 x0.A_.E_], .box [.bool x0.B_.Neg_, lsv (encI .u8) 1 x0.B_.D_, .int .i64 x0.B_.E_]]) (by kernel_rfl) ?_
      refine RJ.caseB 30 (b := (!y50)) (by kernel_rfl) (fun hb53 => ?_) (fun hb53 => ?_)
      · have h54 := condT hb53 h52
        refine RJ.seg 4 [2, 3, 4, 5, 6, 7, 34] (L2 := [(2, .bool false), (3, .ptr 1 0), (4, .ptr 2 0), (5, .int .i16 x0.N_), (6, .int .i16 x0.M_), (7, .bool y1), (34, .bool true)]) (H2 := [.box [.bool x0.A_.Neg_, lsv (encI .u8) 1 x0.A_.D_, .int .i64 x0.A_.E_, .bool x0.B_.Neg_, lsv (encI .u8) 1 x0.B_.D_, .int .i64 x0.B_.E_, .int .i16 x0.N_, .int .i16 x0.M_], .box [.bool x0.A_.Neg_, lsv (encI .u8) 1 x0.A_.D_, .int .i64 x0.A_.E_], .box [.bool x0.B_.Neg_, lsv (encI .u8) 1 x0.B_.D_, .int .i64 x0.B_.E_]]) (by kernel_rfl) ?_
        refine RJ.end (by kernel_rfl) ?_
        obtain rfl := Option.some.inj h54
        refine PJ.wk (Wk.sel (L2 := [(2, .bool false), (3, .ptr 0 0), (4, .ptr 1 0), (5, .int .i16 x0.N_), (6, .int .i16 x0.M_), (7, .bool y1), (34, .bool true)]) (H2 := [.box [.bool x0.A_.Neg_, lsv (encI .u8) 1 x0.A_.D_, .int .i64 x0.A_.E_], .box [.bool x0.B_.Neg_, lsv (encI .u8) 1 x0.B_.D_, .int .i64 x0.B_.E_]]) 0 (by rw [hFH]; rfl) hFD [1, 2] (by kernel_rfl) (by kernel_rfl) (by decide) (by kernel_rfl) (by kernel_rfl) (by kernel_rfl) (by kernel_rfl)) ?_
        exact PJ.cutN [2, 3, 4, 5, 6, 7, 34] (by kernel_rfl) (by kernel_rfl)
      · have h55 := condF hb53 h52
        refine RJ.seg 1 [2, 3, 4, 5, 6, 7, 30, 31] (L2 := [(2, .bool false), (3, .ptr 1 0), (4, .ptr 2 0), (5, .int .i16 x0.N_), (6, .int .i16 x0.M_), (7, .bool y1), (30, .bool false), (31, .agg [.bool x0.B_.Neg_, lsv (encI .u8) 1 x0.B_.D_, .int .i64 x0.B_.E_])]) (H2 := [.box [.bool x0.A_.Neg_, lsv (encI .u8) 1 x0.A_.D_, .int .i64 x0.A_.E_, .bool x0.B_.Neg_, lsv (encI .u8) 1 x0.B_.D_, .int .i64 x0.B_.E_, .int .i16 x0.N_, .int .i16 x0.M_], .box [.bool x0.A_.Neg_, lsv (encI .u8) 1 x0.A_.D_, .int .i64 x0.A_.E_], .box [.bool x0.B_.Neg_, lsv (encI .u8) 1 x0.B_.D_, .int .i64 x0.B_.E_]]) (by kernel_rfl) ?_
        obtain ⟨y56, hy57, h58⟩ := bindS h55
        refine RJ.call0 (d := (some 32)) (f := 14) (args := [.agg [.bool x0.B_.Neg_, lsv (encI .u8) 1 x0.B_.D_, .int .i64 x0.B_.E_]]) (v := .bool y56) (tr2 := []) (by kernel_rfl) (by kernel_rfl) (.cons (Le.refl _) .nil) (exergueref05_Right_ok hy57) (by kernel_rfl) ?_
        refine RJ.seg 2 [2, 3, 4, 5, 6, 7, 34] (L2 := [(2, .bool false), (3, .ptr 1 0), (4, .ptr 2 0), (5, .int .i16 x0.N_), (6, .int .i16 x0.M_), (7, .bool y1), (34, .bool (!y56))]) (H2 := [.box [.bool x0.A_.Neg_, lsv (encI .u8) 1 x0.A_.D_, .int .i64 x0.A_.E_, .bool x0.B_.Neg_, lsv (encI .u8) 1 x0.B_.D_, .int .i64 x0.B_.E_, .int .i16 x0.N_, .int .i16 x0.M_], .box [.bool x0.A_.Neg_, lsv (encI .u8) 1 x0.A_.D_, .int .i64 x0.A_.E_], .box [.bool x0.B_.Neg_, lsv (encI .u8) 1 x0.B_.D_, .int .i64 x0.B_.E_]]) (by kernel_rfl) ?_
        refine RJ.end (by kernel_rfl) ?_
        obtain rfl := Option.some.inj h58
        refine PJ.wk (Wk.sel (L2 := [(2, .bool false), (3, .ptr 0 0), (4, .ptr 1 0), (5, .int .i16 x0.N_), (6, .int .i16 x0.M_), (7, .bool y1), (34, .bool (!y56))]) (H2 := [.box [.bool x0.A_.Neg_, lsv (encI .u8) 1 x0.A_.D_, .int .i64 x0.A_.E_], .box [.bool x0.B_.Neg_, lsv (encI .u8) 1 x0.B_.D_, .int .i64 x0.B_.E_]]) 0 (by rw [hFH]; rfl) hFD [1, 2] (by kernel_rfl) (by kernel_rfl) (by decide) (by kernel_rfl) (by kernel_rfl) (by kernel_rfl) (by kernel_rfl)) ?_
        exact PJ.cutN [2, 3, 4, 5, 6, 7, 34] (by kernel_rfl) (by kernel_rfl)
    · refine J.caseB 34 (b := s45) (by kernel_rfl) (fun hb59 => ?_) (fun hb59 => ?_)
      · have h60 := condT hb59 h49
        refine K.condT (by kernel_rfl) ?_
        refine K.seq (by kernel_rfl) ?_
        refine K.region (by kernel_rfl) ?_
        refine RJ.seg 2 [2, 3, 4, 5, 6, 7] (L2 := [(2, .bool y1), (3, .ptr 0 0), (4, .ptr 1 0), (5, .int .i16 x0.N_), (6, .int .i16 x0.M_), (7, .bool y1)]) (H2 := [.box [.bool x0.A_.Neg_, lsv (encI .u8) 1 x0.A_.D_, .int .i64 x0.A_.E_], .box [.bool x0.B_.Neg_, lsv (encI .u8) 1 x0.B_.D_, .int .i64 x0.B_.E_]]) (by kernel_rfl) ?_
        refine RJ.end (by kernel_rfl) ?_
        refine PJ.next ?_
        refine K.ret (by kernel_rfl) ?_
        obtain rfl := Option.some.inj h60
        have h62 := joinX_inr h34
        refine PJ.cutXr (fun e => nomatch e) ?_
        obtain rfl := Option.some.inj h62
        exact K.ret0 (.inr rfl) hFn hFH hFD (by kernel_rfl) (by kernel_rfl) (by kernel_rfl)
      · have h61 := condF hb59 h49
        refine K.condF (by kernel_rfl) ?_
        refine K.skip (by kernel_rfl) ?_
        obtain rfl := Option.some.inj h61
        exact PJ.cutXl [2, 3, 4, 5, 6, 7] (by kernel_rfl) (by kernel_rfl)
  · subst hs
    have h35 := joinX_inl h34
    refine K.seq (by kernel_rfl) ?_
    refine K.region (by kernel_rfl) ?_
    refine RJ.seg 3 [2, 3, 4, 5, 6, 7, 37, 39] (L2 := [(2, .bool false), (3, .ptr 0 0), (4, .ptr 1 0), (5, .int .i16 x0.N_), (6, .int .i16 x0.M_), (7, .bool y1), (37, .agg [.bool x0.A_.Neg_, lsv (encI .u8) 1 x0.A_.D_, .int .i64 x0.A_.E_]), (39, .int .i64 (IntKind.wrap .i64 x0.N_))]) (H2 := [.box [.bool x0.A_.Neg_, lsv (encI .u8) 1 x0.A_.D_, .int .i64 x0.A_.E_], .box [.bool x0.B_.Neg_, lsv (encI .u8) 1 x0.B_.D_, .int .i64 x0.B_.E_]]) (by kernel_rfl) ?_
    obtain ⟨y63, hy64, h65⟩ := bindS h35
    refine RJ.call0 (d := (some 40)) (f := 18) (args := [.agg [.bool x0.A_.Neg_, lsv (encI .u8) 1 x0.A_.D_, .int .i64 x0.A_.E_], .int .i64 (IntKind.wrap .i64 x0.N_)]) (v := .tup [.agg [.bool y63.1.Neg_, lsv (encI .u8) 1 y63.1.D_, .int .i64 y63.1.E_], .int .i64 y63.2]) (tr2 := []) (by kernel_rfl) (by kernel_rfl) (.cons (Le.refl _) (.cons (Le.refl _) .nil)) (dec_Shift_ok hy64) (by kernel_rfl) ?_
    refine RJ.seg 6 [2, 3, 4, 5, 6, 7, 8, 9] (L2 := [(2, .bool false), (3, .ptr 0 0), (4, .ptr 1 0), (5, .int .i16 x0.N_), (6, .int .i16 x0.M_), (7, .bool y1), (8, .ptr 2 0), (9, .int .i64 y63.2)]) (H2 := [.box [.bool x0.A_.Neg_, lsv (encI .u8) 1 x0.A_.D_, .int .i64 x0.A_.E_], .box [.bool x0.B_.Neg_, lsv (encI .u8) 1 x0.B_.D_, .int .i64 x0.B_.E_], .box [.bool y63.1.Neg_, lsv (encI .u8) 1 y63.1.D_, .int .i64 y63.1.E_]]) (by kernel_rfl) ?_
    refine RJ.end (by kernel_rfl) ?_
    refine PJ.next ?_
    refine K.seq (by kernel_rfl) ?_
    refine K.region (by kernel_rfl) ?_
    refine RJ.seg 3 [2, 3, 4, 5, 6, 7, 8, 9, 44, 46] (L2 := [(2, .bool false), (3, .ptr 0 0), (4, .ptr 1 0), (5, .int .i16 x0.N_), (6, .int .i16 x0.M_), (7, .bool y1), (8, .ptr 2 0), (9, .int .i64 y63.2), (44, .agg [.bool x0.B_.Neg_, lsv (encI .u8) 1 x0.B_.D_, .int .i64 x0.B_.E_]), (46, .int .i64 (IntKind.wrap .i64 x0.N_))]) (H2 := [.box [.bool x0.A_.Neg_, lsv (encI .u8) 1 x0.A_.D_, .int .i64 x0.A_.E_], .box [.bool x0.B_.Neg_, lsv (encI .u8) 1 x0.B_.D_, .int .i64 x0.B_.E_], .box [.bool y63.1.Neg_, lsv (encI .u8) 1 y63.1.D_, .int .i64 y63.1.E_]]) (by kernel_rfl) ?_
    obtain ⟨y66, hy67, h68⟩ := bindS h65
    refine RJ.call0 (d := (some 47)) (f := 18) (args := [.agg [.bool x0.B_.Neg_, lsv (encI .u8) 1 x0.B_.D_, .int .i64 x0.B_.E_], .int .i64 (IntKind.wrap .i64 x0.N_)]) (v := .tup [.agg [.bool y66.1.Neg_, lsv (encI .u8) 1 y66.1.D_, .int .i64 y66.1.E_], .int .i64 y66.2]) (tr2 := []) (by kernel_rfl) (by kernel_rfl) (.cons (Le.refl _) (.cons (Le.refl _) .nil)) (dec_Shift_ok hy67) (by kernel_rfl) ?_
    refine RJ.seg 6 [2, 3, 4, 5, 6, 7, 8, 9, 10, 11] (L2 := [(2, .bool false), (3, .ptr 0 0), (4, .ptr 1 0), (5, .int .i16 x0.N_), (6, .int .i16 x0.M_), (7, .bool y1), (8, .ptr 2 0), (9, .int .i64 y63.2), (10, .ptr 3 0), (11, .int .i64 y66.2)]) (H2 := [.box [.bool x0.A_.Neg_, lsv (encI .u8) 1 x0.A_.D_, .int .i64 x0.A_.E_], .box [.bool x0.B_.Neg_, lsv (encI .u8) 1 x0.B_.D_, .int .i64 x0.B_.E_], .box [.bool y63.1.Neg_, lsv (encI .u8) 1 y63.1.D_, .int .i64 y63.1.E_], .box [.bool y66.1.Neg_, lsv (encI .u8) 1 y66.1.D_, .int .i64 y66.1.E_]]) (by kernel_rfl) ?_
    refine RJ.end (by kernel_rfl) ?_
    refine PJ.next ?_
    obtain ⟨y85, hy86, h87⟩ := bindS h68
    refine K.cutX (by kernel_rfl) (fun (s84 : Unit) => ([(2, .bool false), (3, .ptr 0 0), (4, .ptr 1 0), (5, .int .i16 x0.N_), (6, .int .i16 x0.M_), (7, .bool y1), (8, .ptr 2 0), (10, .ptr 3 0)], [.box [.bool x0.A_.Neg_, lsv (encI .u8) 1 x0.A_.D_, .int .i64 x0.A_.E_], .box [.bool x0.B_.Neg_, lsv (encI .u8) 1 x0.B_.D_, .int .i64 x0.B_.E_], .box [.bool y63.1.Neg_, lsv (encI .u8) 1 y63.1.D_, .int .i64 y63.1.E_], .box [.bool y66.1.Neg_, lsv (encI .u8) 1 y66.1.D_, .int .i64 y66.1.E_]])) y85 ?_ (fun s84 hs => ?_)
    · obtain ⟨s92, hy94, h96⟩ := bindS hy86
      refine K.cutN (by kernel_rfl) (fun (s92 : Bool) => ([(2, .bool false), (3, .ptr 0 0), (4, .ptr 1 0), (5, .int .i16 x0.N_), (6, .int .i16 x0.M_), (7, .bool y1), (8, .ptr 2 0), (10, .ptr 3 0), (55, .bool s92)], [.box [.bool x0.A_.Neg_, lsv (encI .u8) 1 x0.A_.D_, .int .i64 x0.A_.E_], .box [.bool x0.B_.Neg_, lsv (encI .u8) 1 x0.B_.D_, .int .i64 x0.B_.E_], .box [.bool y63.1.Neg_, lsv (encI .u8) 1 y63.1.D_, .int .i64 y63.1.E_], .box [.bool y66.1.Neg_, lsv (encI .u8) 1 y66.1.D_, .int .i64 y66.1.E_]])) s92 ?_ ?_
      · refine K.region (by kernel_rfl) ?_
        refine RJ.seg 3 [2, 3, 4, 5, 6, 7, 8, 10, 11, 52] (L2 := [(2, .bool false), (3, .ptr 0 0), (4, .ptr 1 0), (5, .int .i16 x0.N_), (6, .int .i16 x0.M_), (7, .bool y1), (8, .ptr 2 0), (10, .ptr 3 0), (11, .int .i64 y66.2), (52, .bool (decide (¬ y63.2 = 0)))]) (H2 := [.box [.bool x0.A_.Neg_, lsv (encI .u8) 1 x0.A_.D_, .int .i64 x0.A_.E_], .box [.bool x0.B_.Neg_, lsv (encI .u8) 1 x0.B_.D_, .int .i64 x0.B_.E_], .box [.bool y63.1.Neg_, lsv (encI .u8) 1 y63.1.D_, .int .i64 y63.1.E_], .box [.bool y66.1.Neg_, lsv (encI .u8) 1 y66.1.D_, .int .i64 y66.1.E_]]) (by kernel_rfl) ?_
        refine RJ.caseB 52 (b := (decide (¬ y63.2 = 0))) (by kernel_rfl) (fun hb97 => ?_) (fun hb97 => ?_)
        · have h98 := condT hb97 hy94
          refine RJ.seg 3 [2, 3, 4, 5, 6, 7, 8, 10, 55] (L2 := [(2, .bool false), (3, .ptr 0 0), (4, .ptr 1 0), (5, .int .i16 x0.N_), (6, .int .i16 x0.M_), (7, .bool y1), (8, .ptr 2 0), (10, .ptr 3 0), (55, .bool true)]) (H2 := [.box [.bool x0.A_.Neg_, lsv (encI .u8) 1 x0.A_.D_, .int .i64 x0.A_.E_], .box [.bool x0.B_.Neg_, lsv (encI .u8) 1 x0.B_.D_, .int .i64 x0.B_.E_], .box [.bool y63.1.Neg_, lsv (encI .u8) 1 y63.1.D_, .int .i64 y63.1.E_], .box [.bool y66.1.Neg_, lsv (encI .u8) 1 y66.1.D_, .int .i64 y66.1.E_]]) (by kernel_rfl) ?_
          refine RJ.end (by kernel_rfl) ?_
          obtain rfl := Option.some.inj h98
          exact PJ.cutN [2, 3, 4, 5, 6, 7, 8, 10, 55] (by kernel_rfl) (by kernel_rfl)
        · have h99 := condF hb97 hy94
          refine RJ.seg 3 [2, 3, 4, 5, 6, 7, 8, 10, 55] (L2 := [(2, .bool false), (3, .ptr 0 0), (4, .ptr 1 0), (5, .int .i16 x0.N_), (6, .int .i16 x0.M_), (7, .bool y1), (8, .ptr 2 0), (10, .ptr 3 0), (55, .bool (decide (¬ y66.2 = 0)))]) (H2 := [.box [.bool x0.A_.Neg_, lsv (encI .u8) 1 x0.A_.D_, .int .i64 x0.A_.E_], .box [.bool x0.B_.Neg_, lsv (encI .u8) 1 x0.B_.D_, .int .i64 x0.B_.E_], .box [.bool y63.1.Neg_, lsv (encI .u8) 1 y63.1.D_, .int .i64 y63.1.E_], .box [.bool y66.1.Neg_, lsv (encI .u8) 1 y66.1.D_, .int .i64 y66.1.E_]]) (by kernel_rfl) ?_
          refine RJ.end (by kernel_rfl) ?_
          obtain rfl := Option.some.inj h99
          exact PJ.cutN [2, 3, 4, 5, 6, 7, 8, 10, 55] (by kernel_rfl) (by kernel_rfl)
      · refine J.caseB 55 (b := s92) (by kernel_rfl) (fun hb100 => ?_) (fun hb100 => ?_)
        · have h101 := condT hb100 h96
          refine K.condT (by kernel_rfl) ?_
          refine K.seq (by kernel_rfl) ?_
          refine K.region (by kernel_rfl) ?_
          refine RJ.seg 2 [2, 3, 4, 5, 6, 7, 8, 10] (L2 := [(2, .bool y1), (3, .ptr 0 0), (4, .ptr 1 0), (5, .int .i16 x0.N_), (6, .int .i16 x0.M_), (7, .bool y1), (8, .ptr 2 0), (10, .ptr 3 0)]) (H2 := [.box [.bool x0.A_.Neg_, lsv (encI .u8) 1 x0.A_.D_, .int .i64 x0.A_.E_], .box [.bool x0.B_.Neg_, lsv (encI .u8) 1 x0.B_.D_, .int .i64 x0.B_.E_], .box [.bool y63.1.Neg_, lsv (encI .u8) 1 y63.1.D_, .int .i64 y63.1.E_], .box [.bool y66.1.Neg_, lsv (encI .u8) 1 y66.1.D_, .int .i64 y66.1.E_]]) (by kernel_rfl) ?_
          refine RJ.end (by kernel_rfl) ?_
          refine PJ.next ?_
          refine K.ret (by kernel_rfl) ?_
          obtain rfl := Option.some.inj h101
          have h103 := joinX_inr h87
          refine PJ.cutXr (fun e => nomatch e) ?_
          obtain rfl := Option.some.inj h103
          exact K.ret0 (.inr rfl) hFn hFH hFD (by kernel_rfl) (by kernel_rfl) (by kernel_rfl)
        · have h102 := condF hb100 h96
          refine K.condF (by kernel_rfl) ?_
          refine K.skip (by kernel_rfl) ?_
          obtain rfl := Option.some.inj h102
          exact PJ.cutXl [2, 3, 4, 5, 6, 7, 8, 10] (by kernel_rfl) (by kernel_rfl)
    · subst hs
      have h88 := joinX_inl h87
      refine K.seq (by kernel_rfl) ?_
      refine K.region (by kernel_rfl) ?_
      refine RJ.seg 4 [2, 3, 4, 5, 6, 7, 8, 10, 58, 61] (L2 := [(2, .bool false), (3, .ptr 0 0), (4, .ptr 1 0), (5, .int .i16 x0.N_), (6, .int .i16 x0.M_), (7, .bool y1), (8, .ptr 2 0), (10, .ptr 3 0), (58, .agg [.bool y63.1.Neg_, lsv (encI .u8) 1 y63.1.D_, .int .i64 y63.1.E_]), (61, .int .i64 ((IntKind.wrap .i64 (0 - (IntKind.wrap .i64 x0.N_)))))]) (H2 := [.box [.bool x0.A_.Neg_, lsv (encI .u8) 1 x0.A_.D_, .int .i64 x0.A_.E_], .box [.bool x0.B_.Neg_, lsv (encI .u8) 1 x0.B_.D_, .int .i64 x0.B_.E_], .box [.bool y63.1.Neg_, lsv (encI .u8) 1 y63.1.D_, .int .i64 y63.1.E_], .box [.bool y66.1.Neg_, lsv (encI .u8) 1 y66.1.D_, .int .i64 y66.1.E_]]) (by kernel_rfl) ?_
      obtain ⟨y104, hy105, h106⟩ := bindS h88
      refine RJ.call0 (d := (some 62)) (f := 18) (args := [.agg [.bool y63.1.Neg_, lsv (encI .u8) 1 y63.1.D_, .int .i64 y63.1.E_], .int .i64 ((IntKind.wrap .i64 (0 - (IntKind.wrap .i64 x0.N_))))]) (v := .tup [.agg [.bool y104.1.Neg_, lsv (encI .u8) 1 y104.1.D_, .int .i64 y104.1.E_], .int .i64 y104.2]) (tr2 := []) (by kernel_rfl) (by kernel_rfl) (.cons (Le.refl _) (.cons (Le.refl _) .nil)) (dec_Shift_ok hy105) (by kernel_rfl) ?_
      refine RJ.seg 6 [2, 3, 4, 5, 6, 7, 8, 10, 12, 13] (L2 := [(2, .bool false), (3, .ptr 0 0), (4, .ptr 1 0), (5, .int .i16 x0.N_), (6, .int .i16 x0.M_), (7, .bool y1), (8, .ptr 2 0), (10, .ptr 3 0), (12, .ptr 4 0), (13, .int .i64 y104.2)]) (H2 := [.box [.bool x0.A_.Neg_, lsv (encI .u8) 1 x0.A_.D_, .int .i64 x0.A_.E_], .box [.bool x0.B_.Neg_, lsv (encI .u8) 1 x0.B_.D_, .int .i64 x0.B_.E_], .box [.bool y63.1.Neg_, lsv (encI .u8) 1 y63.1.D_, .int .i64 y63.1.E_], .box [.bool y66.1.Neg_, lsv (encI .u8) 1 y66.1.D_, .int .i64 y66.1.E_], .box [.bool y104.1.Neg_, lsv (encI .u8) 1 y104.1.D_, .int .i64 y104.1.E_]]) (by kernel_rfl) ?_
      refine RJ.end (by kernel_rfl) ?_
      refine PJ.next ?_
      refine K.seq (by kernel_rfl) ?_
      refine K.region (by kernel_rfl) ?_
      refine RJ.seg 3 [2, 3, 4, 5, 6, 7, 8, 10, 12, 13, 66, 68] (L2 := [(2, .bool false), (3, .ptr 0 0), (4, .ptr 1 0), (5, .int .i16 x0.N_), (6, .int .i16 x0.M_), (7, .bool y1), (8, .ptr 2 0), (10, .ptr 3 0), (12, .ptr 4 0), (13, .int .i64 y104.2), (66, .agg [.bool y63.1.Neg_, lsv (encI .u8) 1 y63.1.D_, .int .i64 y63.1.E_]), (68, .int .i64 (IntKind.wrap .i64 x0.M_))]) (H2 := [.box [.bool x0.A_.Neg_, lsv (encI .u8) 1 x0.A_.D_, .int .i64 x0.A_.E_], .box [.bool x0.B_.Neg_, lsv (encI .u8) 1 x0.B_.D_, .int .i64 x0.B_.E_], .box [.bool y63.1.Neg_, lsv (encI .u8) 1 y63.1.D_, .int .i64 y63.1.E_], .box [.bool y66.1.Neg_, lsv (encI .u8) 1 y66.1.D_, .int .i64 y66.1.E_], .box [.bool y104.1.Neg_, lsv (encI .u8) 1 y104.1.D_, .int .i64 y104.1.E_]]) (by kernel_rfl) ?_
      obtain ⟨y107, hy108, h109⟩ := bindS h106
      refine RJ.call0 (d := (some 69)) (f := 18) (args := [.agg [.bool y63.1.Neg_, lsv (encI .u8) 1 y63.1.D_, .int .i64 y63.1.E_], .int .i64 (IntKind.wrap .i64 x0.M_)]) (v := .tup [.agg [.bool y107.1.Neg_, lsv (encI .u8) 1 y107.1.D_, .int .i64 y107.1.E_], .int .i64 y107.2]) (tr2 := []) (by kernel_rfl) (by kernel_rfl) (.cons (Le.refl _) (.cons (Le.refl _) .nil)) (dec_Shift_ok hy108) (by kernel_rfl) ?_
      refine RJ.seg 6 [2, 3, 4, 5, 6, 7, 8, 10, 12, 13, 14, 15] (L2 := [(2, .bool false), (3, .ptr 0 0), (4, .ptr 1 0), (5, .int .i16 x0.N_), (6, .int .i16 x0.M_), (7, .bool y1), (8, .ptr 2 0), (10, .ptr 3 0), (12, .ptr 4 0), (13, .int .i64 y104.2), (14, .ptr 5 0), (15, .int .i64 y107.2)]) (H2 := [.box [.bool x0.A_.Neg_, lsv (encI .u8) 1 x0.A_.D_, .int .i64 x0.A_.E_], .box [.bool x0.B_.Neg_, lsv (encI .u8) 1 x0.B_.D_, .int .i64 x0.B_.E_], .box [.bool y63.1.Neg_, lsv (encI .u8) 1 y63.1.D_, .int .i64 y63.1.E_], .box [.bool y66.1.Neg_, lsv (encI .u8) 1 y66.1.D_, .int .i64 y66.1.E_], .box [.bool y104.1.Neg_, lsv (encI .u8) 1 y104.1.D_, .int .i64 y104.1.E_], .box [.bool y107.1.Neg_, lsv (encI .u8) 1 y107.1.D_, .int .i64 y107.1.E_]]) (by kernel_rfl) ?_
      refine RJ.end (by kernel_rfl) ?_
      refine PJ.next ?_
      refine K.seq (by kernel_rfl) ?_
      refine K.region (by kernel_rfl) ?_
      refine RJ.seg 6 [2, 3, 4, 7, 8, 10, 12, 13, 14, 15, 73, 78] (L2 := [(2, .bool false), (3, .ptr 0 0), (4, .ptr 1 0), (7, .bool y1), (8, .ptr 2 0), (10, .ptr 3 0), (12, .ptr 4 0), (13, .int .i64 y104.2), (14, .ptr 5 0), (15, .int .i64 y107.2), (73, .agg [.bool x0.A_.Neg_, lsv (encI .u8) 1 x0.A_.D_, .int .i64 x0.A_.E_]), (78, .int .i64 ((IntKind.wrap .i64 ((IntKind.wrap .i64 x0.N_) + (IntKind.wrap .i64 x0.M_)))))]) (H2 := [.box [.bool x0.A_.Neg_, lsv (encI .u8) 1 x0.A_.D_, .int .i64 x0.A_.E_], .box [.bool x0.B_.Neg_, lsv (encI .u8) 1 x0.B_.D_, .int .i64 x0.B_.E_], .box [.bool y63.1.Neg_, lsv (encI .u8) 1 y63.1.D_, .int .i64 y63.1.E_], .box [.bool y66.1.Neg_, lsv (encI .u8) 1 y66.1.D_, .int .i64 y66.1.E_], .box [.bool y104.1.Neg_, lsv (encI .u8) 1 y104.1.D_, .int .i64 y104.1.E_], .box [.bool y107.1.Neg_, lsv (encI .u8) 1 y107.1.D_, .int .i64 y107.1.E_]]) (by kernel_rfl) ?_
      obtain ⟨y110, hy111, h112⟩ := bindS h109
      refine RJ.call0 (d := (some 79)) (f := 18) (args := [.agg [.bool x0.A_.Neg_, lsv (encI .u8) 1 x0.A_.D_, .int .i64 x0.A_.E_], .int .i64 ((IntKind.wrap .i64 ((IntKind.wrap .i64 x0.N_) + (IntKind.wrap .i64 x0.M_))))]) (v := .tup [.agg [.bool y110.1.Neg_, lsv (encI .u8) 1 y110.1.D_, .int .i64 y110.1.E_], .int .i64 y110.2]) (tr2 := []) (by kernel_rfl) (by kernel_rfl) (.cons (Le.refl _) (.cons (Le.refl _) .nil)) (dec_Shift_ok hy111) (by kernel_rfl) ?_
      refine RJ.seg 6 [2, 3, 4, 7, 8, 10, 12, 13, 14, 15, 16, 17] (L2 := [(2, .bool false), (3, .ptr 0 0), (4, .ptr 1 0), (7, .bool y1), (8, .ptr 2 0), (10, .ptr 3 0), (12, .ptr 4 0), (13, .int .i64 y104.2), (14, .ptr 5 0), (15, .int .i64 y107.2), (16, .ptr 6 0), (17, .int .i64 y110.2)]) (H2 := [.box [.bool x0.A_.Neg_, lsv (encI .u8) 1 x0.A_.D_, .int .i64 x0.A_.E_], .box [.bool x0.B_.Neg_, lsv (encI .u8) 1 x0.B_.D_, .int .i64 x0.B_.E_], .box [.bool y63.1.Neg_, lsv (encI .u8) 1 y63.1.D_, .int .i64 y63.1.E_], .box [.bool y66.1.Neg_, lsv (encI .u8) 1 y66.1.D_, .int .i64 y66.1.E_], .box [.bool y104.1.Neg_, lsv (encI .u8) 1 y104.1.D_, .int .i64 y104.1.E_], .box [.bool y107.1.Neg_, lsv (encI .u8) 1 y107.1.D_, .int .i64 y107.1.E_], .box [.bool y110.1.Neg_, lsv (encI .u8) 1 y110.1.D_, .int .i64 y110.1.E_]]) (by kernel_rfl) ?_
      refine RJ.end (by kernel_rfl) ?_
      refine PJ.next ?_
      obtain ⟨s152, hy154, h156⟩ := bindS h112
      refine K.cutN (by kernel_rfl) (fun (s152 : Bool) => ([(2, .bool s152)], [])) s152 ?_ ?_
      · refine J.keep [2, 3, 4, 7, 8, 10, 12, 13, 14, 15, 16, 17] (L2 := [(2, .bool false), (3, .ptr 0 0), (4, .ptr 1 0), (7, .bool y1), (8, .ptr 2 0), (10, .ptr 3 0), (12, .ptr 4 0), (13, .int .i64 y104.2), (14, .ptr 5 0), (15, .int .i64 y107.2), (16, .ptr 6 0), (17, .int .i64 y110.2)]) (by kernel_rfl) ?_
        refine K.draw (by kernel_rfl) (by kernel_rfl) (by kernel_rfl) (H2 := [.box [.bool x0.A_.Neg_, lsv (encI .u8) 1 x0.A_.D_, .int .i64 x0.A_.E_], .box [.bool x0.B_.Neg_, lsv (encI .u8) 1 x0.B_.D_, .int .i64 x0.B_.E_], .box [.bool y63.1.Neg_, lsv (encI .u8) 1 y63.1.D_, .int .i64 y63.1.E_], .box [.bool y66.1.Neg_, lsv (encI .u8) 1 y66.1.D_, .int .i64 y66.1.E_], .box [.bool y104.1.Neg_, lsv (encI .u8) 1 y104.1.D_, .int .i64 y104.1.E_], .box [.bool y107.1.Neg_, lsv (encI .u8) 1 y107.1.D_, .int .i64 y107.1.E_], .box [.bool y110.1.Neg_, lsv (encI .u8) 1 y110.1.D_, .int .i64 y110.1.E_], .res, .res, .res, .res, .res, .res]) (by kernel_rfl) (n := 7) (by kernel_rfl) ?_
        refine RJ.segD 2 (tr2 := [([], []), ([], [])]) (L2 := [(83, .bool y1), (82, .bool y1), (2, .bool false), (3, .ptr 0 0), (4, .ptr 1 0), (7, .bool y1), (8, .ptr 2 0), (10, .ptr 3 0), (12, .ptr 4 0), (13, .int .i64 y104.2), (14, .ptr 5 0), (15, .int .i64 y107.2), (16, .ptr 6 0), (17, .int .i64 y110.2)]) (H2 := [.box [.bool x0.A_.Neg_, lsv (encI .u8) 1 x0.A_.D_, .int .i64 x0.A_.E_], .box [.bool x0.B_.Neg_, lsv (encI .u8) 1 x0.B_.D_, .int .i64 x0.B_.E_], .box [.bool y63.1.Neg_, lsv (encI .u8) 1 y63.1.D_, .int .i64 y63.1.E_], .box [.bool y66.1.Neg_, lsv (encI .u8) 1 y66.1.D_, .int .i64 y66.1.E_], .box [.bool y104.1.Neg_, lsv (encI .u8) 1 y104.1.D_, .int .i64 y104.1.E_], .box [.bool y107.1.Neg_, lsv (encI .u8) 1 y107.1.D_, .int .i64 y107.1.E_], .box [.bool y110.1.Neg_, lsv (encI .u8) 1 y110.1.D_, .int .i64 y110.1.E_], .res, .res, .res, .res, .res, .res]) (by kernel_rfl) ?_
        refine RJ.caseB 83 (b := y1) (by kernel_rfl) (fun hb157 => ?_) (fun hb157 => ?_)
        · have h158 := condT hb157 hy154
          refine RJ.segD 1 (tr2 := [([], []), ([], []), ([4, 5], [])]) (L2 := [(84, .agg [.bool y63.1.Neg_, lsv (encI .u8) 1 y63.1.D_, .int .i64 y63.1.E_]), (83, .bool true), (83, .bool y1), (82, .bool y1), (2, .bool false), (3, .ptr 0 0), (4, .ptr 1 0), (7, .bool y1), (8, .ptr 2 0), (10, .ptr 3 0), (12, .ptr 4 0), (13, .int .i64 y104.2), (14, .ptr 5 0), (15, .int .i64 y107.2), (16, .ptr 6 0), (17, .int .i64 y110.2)]) (H2 := [.box [.bool x0.A_.Neg_, lsv (encI .u8) 1 x0.A_.D_, .int .i64 x0.A_.E_], .box [.bool x0.B_.Neg_, lsv (encI .u8) 1 x0.B_.D_, .int .i64 x0.B_.E_], .box [.bool y63.1.Neg_, lsv (encI .u8) 1 y63.1.D_, .int .i64 y63.1.E_], .box [.bool y66.1.Neg_, lsv (encI .u8) 1 y66.1.D_, .int .i64 y66.1.E_], .box [.bool y104.1.Neg_, lsv (encI .u8) 1 y104.1.D_, .int .i64 y104.1.E_], .box [.bool y107.1.Neg_, lsv (encI .u8) 1 y107.1.D_, .int .i64 y107.1.E_], .box [.bool y110.1.Neg_, lsv (encI .u8) 1 y110.1.D_, .int .i64 y110.1.E_], .res, .res, .res, .res, .res, .res]) (by kernel_rfl) ?_
          obtain ⟨y160, hy161, h162⟩ := bindS h158
          refine RJ.call0 (d := (some 85)) (f := 14) (args := [.agg [.bool y63.1.Neg_, lsv (encI .u8) 1 y63.1.D_, .int .i64 y63.1.E_]]) (v := .bool y160) (tr2 := [([], []), ([], []), ([4, 5], []), ([], [14, 15])]) (by kernel_rfl) (by kernel_rfl) (.cons (Le.refl _) .nil) (exergueref05_Right_ok hy161) (by kernel_rfl) ?_
          refine RJ.segD 2 (tr2 := [([], []), ([], []), ([4, 5], []), ([], [14, 15]), ([], []), ([], [])]) (L2 := [(87, .bool y160), (86, .bool y160), (85, .bool y160), (84, .agg [.bool y63.1.Neg_, lsv (encI .u8) 1 y63.1.D_, .int .i64 y63.1.E_]), (83, .bool true), (83, .bool y1), (82, .bool y1), (2, .bool false), (3, .ptr 0 0), (4, .ptr 1 0), (7, .bool y1), (8, .ptr 2 0), (10, .ptr 3 0), (12, .ptr 4 0), (13, .int .i64 y104.2), (14, .ptr 5 0), (15, .int .i64 y107.2), (16, .ptr 6 0), (17, .int .i64 y110.2)]) (H2 := [.box [.bool x0.A_.Neg_, lsv (encI .u8) 1 x0.A_.D_, .int .i64 x0.A_.E_], .box [.bool x0.B_.Neg_, lsv (encI .u8) 1 x0.B_.D_, .int .i64 x0.B_.E_], .box [.bool y63.1.Neg_, lsv (encI .u8) 1 y63.1.D_, .int .i64 y63.1.E_], .box [.bool y66.1.Neg_, lsv (encI .u8) 1 y66.1.D_, .int .i64 y66.1.E_], .box [.bool y104.1.Neg_, lsv (encI .u8) 1 y104.1.D_, .int .i64 y104.1.E_], .box [.bool y107.1.Neg_, lsv (encI .u8) 1 y107.1.D_, .int .i64 y107.1.E_], .box [.bool y110.1.Neg_, lsv (encI .u8) 1 y110.1.D_, .int .i64 y110.1.E_], .res, .res, .res, .res, .res, .res]) (by kernel_rfl) ?_
          refine RJ.caseB 87 (b := y160) (by kernel_rfl) (fun hb163 => ?_) (fun hb163 => ?_)
          · have h164 := condT hb163 h162
            refine RJ.segD 4 (tr2 := [([], []), ([], []), ([4, 5], []), ([], [14, 15]), ([], []), ([], []), ([], []), ([], []), ([], []), ([], [])]) (L2 := [(91, .bool (decide (y104.2 = 0))), (90, .bool (decide (y104.2 = 0))), (89, .bool (decide (y104.2 = 0))), (88, .int .i64 y104.2), (87, .bool true), (87, .bool y160), (86, .bool y160), (85, .bool y160), (84, .agg [.bool y63.1.Neg_, lsv (encI .u8) 1 y63.1.D_, .int .i64 y63.1.E_]), (83, .bool true), (83, .bool y1), (82, .bool y1), (2, .bool false), (3, .ptr 0 0), (4, .ptr 1 0), (7, .bool y1), (8, .ptr 2 0), (10, .ptr 3 0), (12, .ptr 4 0), (13, .int .i64 y104.2), (14, .ptr 5 0), (15, .int .i64 y107.2), (16, .ptr 6 0), (17, .int .i64 y110.2)]) (H2 := [.box [.bool x0.A_.Neg_, lsv (encI .u8) 1 x0.A_.D_, .int .i64 x0.A_.E_], .box [.bool x0.B_.Neg_, lsv (encI .u8) 1 x0.B_.D_, .int .i64 x0.B_.E_], .box [.bool y63.1.Neg_, lsv (encI .u8) 1 y63.1.D_, .int .i64 y63.1.E_], .box [.bool y66.1.Neg_, lsv (encI .u8) 1 y66.1.D_, .int .i64 y66.1.E_], .box [.bool y104.1.Neg_, lsv (encI .u8) 1 y104.1.D_, .int .i64 y104.1.E_], .box [.bool y107.1.Neg_, lsv (encI .u8) 1 y107.1.D_, .int .i64 y107.1.E_], .box [.bool y110.1.Neg_, lsv (encI .u8) 1 y110.1.D_, .int .i64 y110.1.E_], .res, .res, .res, .res, .res, .res]) (by kernel_rfl) ?_
            refine RJ.caseB 91 (b := (decide (y104.2 = 0))) (by kernel_rfl) (fun hb166 => ?_) (fun hb166 => ?_)
            · have h167 := condT hb166 h164
              refine RJ.segD 2 (tr2 := [([], []), ([], []), ([4, 5], []), ([], [14, 15]), ([], []), ([], []), ([], []), ([], []), ([], []), ([], []), ([8, 9], []), ([0, 1], [])]) (L2 := [(93, .agg [.bool x0.A_.Neg_, lsv (encI .u8) 1 x0.A_.D_, .int .i64 x0.A_.E_]), (92, .agg [.bool y104.1.Neg_, lsv (encI .u8) 1 y104.1.D_, .int .i64 y104.1.E_]), (91, .bool true), (91, .bool (decide (y104.2 = 0))), (90, .bool (decide (y104.2 = 0))), (89, .bool (decide (y104.2 = 0))), (88, .int .i64 y104.2), (87, .bool true), (87, .bool y160), (86, .bool y160), (85, .bool y160), (84, .agg [.bool y63.1.Neg_, lsv (encI .u8) 1 y63.1.D_, .int .i64 y63.1.E_]), (83, .bool true), (83, .bool y1), (82, .bool y1), (2, .bool false), (3, .ptr 0 0), (4, .ptr 1 0), (7, .bool y1), (8, .ptr 2 0), (10, .ptr 3 0), (12, .ptr 4 0), (13, .int .i64 y104.2), (14, .ptr 5 0), (15, .int .i64 y107.2), (16, .ptr 6 0), (17, .int .i64 y110.2)]) (H2 := [.box [.bool x0.A_.Neg_, lsv (encI .u8) 1 x0.A_.D_, .int .i64 x0.A_.E_], .box [.bool x0.B_.Neg_, lsv (encI .u8) 1 x0.B_.D_, .int .i64 x0.B_.E_], .box [.bool y63.1.Neg_, lsv (encI .u8) 1 y63.1.D_, .int .i64 y63.1.E_], .box [.bool y66.1.Neg_, lsv (encI .u8) 1 y66.1.D_, .int .i64 y66.1.E_], .box [.bool y104.1.Neg_, lsv (encI .u8) 1 y104.1.D_, .int .i64 y104.1.E_], .box [.bool y107.1.Neg_, lsv (encI .u8) 1 y107.1.D_, .int .i64 y107.1.E_], .box [.bool y110.1.Neg_, lsv (encI .u8) 1 y110.1.D_, .int .i64 y110.1.E_], .res, .res, .res, .res, .res, .res]) (by kernel_rfl) ?_
              obtain ⟨y169, hy170, h171⟩ := bindS h167
              refine RJ.call0 (d := (some 94)) (f := 13) (args := [.agg [.bool y104.1.Neg_, lsv (encI .u8) 1 y104.1.D_, .int .i64 y104.1.E_], .agg [.bool x0.A_.Neg_, lsv (encI .u8) 1 x0.A_.D_, .int .i64 x0.A_.E_]]) (v := .bool y169) (tr2 := [([], []), ([], []), ([4, 5], []), ([], [14, 15]), ([], []), ([], []), ([], []), ([], []), ([], []), ([], []), ([8, 9], []), ([0, 1], []), ([], [16, 17])]) (by kernel_rfl) (by kernel_rfl) (.cons (Le.refl _) (.cons (Le.refl _) .nil)) (exergueref05_Same_ok hy170) (by kernel_rfl) ?_
              refine RJ.segD 2 (tr2 := [([], []), ([], []), ([4, 5], []), ([], [14, 15]), ([], []), ([], []), ([], []), ([], []), ([], []), ([], []), ([8, 9], []), ([0, 1], []), ([], [16, 17]), ([], []), ([], [])]) (L2 := [(96, .bool y169), (95, .bool y169), (94, .bool y169), (93, .agg [.bool x0.A_.Neg_, lsv (encI .u8) 1 x0.A_.D_, .int .i64 x0.A_.E_]), (92, .agg [.bool y104.1.Neg_, lsv (encI .u8) 1 y104.1.D_, .int .i64 y104.1.E_]), (91, .bool true), (91, .bool (decide (y104.2 = 0))), (90, .bool (decide (y104.2 = 0))), (89, .bool (decide (y104.2 = 0))), (88, .int .i64 y104.2), (87, .bool true), (87, .bool y160), (86, .bool y160), (85, .bool y160), (84, .agg [.bool y63.1.Neg_, lsv (encI .u8) 1 y63.1.D_, .int .i64 y63.1.E_]), (83, .bool true), (83, .bool y1), (82, .bool y1), (2, .bool false), (3, .ptr 0 0), (4, .ptr 1 0), (7, .bool y1), (8, .ptr 2 0), (10, .ptr 3 0), (12, .ptr 4 0), (13, .int .i64 y104.2), (14, .ptr 5 0), (15, .int .i64 y107.2), (16, .ptr 6 0), (17, .int .i64 y110.2)]) (H2 := [.box [.bool x0.A_.Neg_, lsv (encI .u8) 1 x0.A_.D_, .int .i64 x0.A_.E_], .box [.bool x0.B_.Neg_, lsv (encI .u8) 1 x0.B_.D_, .int .i64 x0.B_.E_], .box [.bool y63.1.Neg_, lsv (encI .u8) 1 y63.1.D_, .int .i64 y63.1.E_], .box [.bool y66.1.Neg_, lsv (encI .u8) 1 y66.1.D_, .int .i64 y66.1.E_], .box [.bool y104.1.Neg_, lsv (encI .u8) 1 y104.1.D_, .int .i64 y104.1.E_], .box [.bool y107.1.Neg_, lsv (encI .u8) 1 y107.1.D_, .int .i64 y107.1.E_], .box [.bool y110.1.Neg_, lsv (encI .u8) 1 y110.1.D_, .int .i64 y110.1.E_], .res, .res, .res, .res, .res, .res]) (by kernel_rfl) ?_
              refine RJ.caseB 96 (b := y169) (by kernel_rfl) (fun hb172 => ?_) (fun hb172 => ?_)
              · have h173 := condT hb172 h171
                refine RJ.segD 5 (tr2 := [([], []), ([], []), ([4, 5], []), ([], [14, 15]), ([], []), ([], []), ([], []), ([], []), ([], []), ([], []), ([8, 9], []), ([0, 1], []), ([], [16, 17]), ([], []), ([], []), ([], []), ([], []), ([], []), ([], []), ([], [])]) (L2 := [(101, .bool (decide (y107.2 = y110.2))), (100, .bool (decide (y107.2 = y110.2))), (99, .bool (decide (y107.2 = y110.2))), (98, .int .i64 y110.2), (97, .int .i64 y107.2), (96, .bool true), (96, .bool y169), (95, .bool y169), (94, .bool y169), (93, .agg [.bool x0.A_.Neg_, lsv (encI .u8) 1 x0.A_.D_, .int .i64 x0.A_.E_]), (92, .agg [.bool y104.1.Neg_, lsv (encI .u8) 1 y104.1.D_, .int .i64 y104.1.E_]), (91, .bool true), (91, .bool (decide (y104.2 = 0))), (90, .bool (decide (y104.2 = 0))), (89, .bool (decide (y104.2 = 0))), (88, .int .i64 y104.2), (87, .bool true), (87, .bool y160), (86, .bool y160), (85, .bool y160), (84, .agg [.bool y63.1.Neg_, lsv (encI .u8) 1 y63.1.D_, .int .i64 y63.1.E_]), (83, .bool true), (83, .bool y1), (82, .bool y1), (2, .bool false), (3, .ptr 0 0), (4, .ptr 1 0), (7, .bool y1), (8, .ptr 2 0), (10, .ptr 3 0), (12, .ptr 4 0), (13, .int .i64 y104.2), (14, .ptr 5 0), (15, .int .i64 y107.2), (16, .ptr 6 0), (17, .int .i64 y110.2)]) (H2 := [.box [.bool x0.A_.Neg_, lsv (encI .u8) 1 x0.A_.D_, .int .i64 x0.A_.E_], .box [.bool x0.B_.Neg_, lsv (encI .u8) 1 x0.B_.D_, .int .i64 x0.B_.E_], .box [.bool y63.1.Neg_, lsv (encI .u8) 1 y63.1.D_, .int .i64 y63.1.E_], .box [.bool y66.1.Neg_, lsv (encI .u8) 1 y66.1.D_, .int .i64 y66.1.E_], .box [.bool y104.1.Neg_, lsv (encI .u8) 1 y104.1.D_, .int .i64 y104.1.E_], .box [.bool y107.1.Neg_, lsv (encI .u8) 1 y107.1.D_, .int .i64 y107.1.E_], .box [.bool y110.1.Neg_, lsv (encI .u8) 1 y110.1.D_, .int .i64 y110.1.E_], .res, .res, .res, .res, .res, .res]) (by kernel_rfl) ?_
                refine RJ.caseB 101 (b := (decide (y107.2 = y110.2))) (by kernel_rfl) (fun hb175 => ?_) (fun hb175 => ?_)
                · have h176 := condT hb175 h173
                  refine RJ.segD 2 (tr2 := [([], []), ([], []), ([4, 5], []), ([], [14, 15]), ([], []), ([], []), ([], []), ([], []), ([], []), ([], []), ([8, 9], []), ([0, 1], []), ([], [16, 17]), ([], []), ([], []), ([], []), ([], []), ([], []), ([], []), ([], []), ([12, 13], []), ([10, 11], [])]) (L2 := [(103, .agg [.bool y107.1.Neg_, lsv (encI .u8) 1 y107.1.D_, .int .i64 y107.1.E_]), (102, .agg [.bool y110.1.Neg_, lsv (encI .u8) 1 y110.1.D_, .int .i64 y110.1.E_]), (101, .bool true), (101, .bool (decide (y107.2 = y110.2))), (100, .bool (decide (y107.2 = y110.2))), (99, .bool (decide (y107.2 = y110.2))), (98, .int .i64 y110.2), (97, .int .i64 y107.2), (96, .bool true), (96, .bool y169), (95, .bool y169), (94, .bool y169), (93, .agg [.bool x0.A_.Neg_, lsv (encI .u8) 1 x0.A_.D_, .int .i64 x0.A_.E_]), (92, .agg [.bool y104.1.Neg_, lsv (encI .u8) 1 y104.1.D_, .int .i64 y104.1.E_]), (91, .bool true), (91, .bool (decide (y104.2 = 0))), (90, .bool (decide (y104.2 = 0))), (89, .bool (decide (y104.2 = 0))), (88, .int .i64 y104.2), (87, .bool true), (87, .bool y160), (86, .bool y160), (85, .bool y160), (84, .agg [.bool y63.1.Neg_, lsv (encI .u8) 1 y63.1.D_, .int .i64 y63.1.E_]), (83, .bool true), (83, .bool y1), (82, .bool y1), (2, .bool false), (3, .ptr 0 0), (4, .ptr 1 0), (7, .bool y1), (8, .ptr 2 0), (10, .ptr 3 0), (12, .ptr 4 0), (13, .int .i64 y104.2), (14, .ptr 5 0), (15, .int .i64 y107.2), (16, .ptr 6 0), (17, .int .i64 y110.2)]) (H2 := [.box [.bool x0.A_.Neg_, lsv (encI .u8) 1 x0.A_.D_, .int .i64 x0.A_.E_], .box [.bool x0.B_.Neg_, lsv (encI .u8) 1 x0.B_.D_, .int .i64 x0.B_.E_], .box [.bool y63.1.Neg_, lsv (encI .u8) 1 y63.1.D_, .int .i64 y63.1.E_], .box [.bool y66.1.Neg_, lsv (encI .u8) 1 y66.1.D_, .int .i64 y66.1.E_], .box [.bool y104.1.Neg_, lsv (encI .u8) 1 y104.1.D_, .int .i64 y104.1.E_], .box [.bool y107.1.Neg_, lsv (encI .u8) 1 y107.1.D_, .int .i64 y107.1.E_], .box [.bool y110.1.Neg_, lsv (encI .u8) 1 y110.1.D_, .int .i64 y110.1.E_], .res, .res, .res, .res, .res, .res]) (by kernel_rfl) ?_
                  obtain ⟨y178, hy179, h180⟩ := bindS h176
                  refine RJ.call0 (d := (some 104)) (f := 13) (args := [.agg [.bool y110.1.Neg_, lsv (encI .u8) 1 y110.1.D_, .int .i64 y110.1.E_], .agg [.bool y107.1.Neg_, lsv (encI .u8) 1 y107.1.D_, .int .i64 y107.1.E_]]) (v := .bool y178) (tr2 := [([], []), ([], []), ([4, 5], []), ([], [14, 15]), ([], []), ([], []), ([], []), ([], []), ([], []), ([], []), ([8, 9], []), ([0, 1], []), ([], [16, 17]), ([], []), ([], []), ([], []), ([], []), ([], []), ([], []), ([], []), ([12, 13], []), ([10, 11], []), ([], [18, 19])]) (by kernel_rfl) (by kernel_rfl) (.cons (Le.refl _) (.cons (Le.refl _) .nil)) (exergueref05_Same_ok hy179) (by kernel_rfl) ?_
                  refine RJ.segD 2 (tr2 := [([], []), ([], []), ([4, 5], []), ([], [14, 15]), ([], []), ([], []), ([], []), ([], []), ([], []), ([], []), ([8, 9], []), ([0, 1], []), ([], [16, 17]), ([], []), ([], []), ([], []), ([], []), ([], []), ([], []), ([], []), ([12, 13], []), ([10, 11], []), ([], [18, 19]), ([], []), ([], [])]) (L2 := [(106, .bool y178), (105, .bool y178), (104, .bool y178), (103, .agg [.bool y107.1.Neg_, lsv (encI .u8) 1 y107.1.D_, .int .i64 y107.1.E_]), (102, .agg [.bool y110.1.Neg_, lsv (encI .u8) 1 y110.1.D_, .int .i64 y110.1.E_]), (101, .bool true), (101, .bool (decide (y107.2 = y110.2))), (100, .bool (decide (y107.2 = y110.2))), (99, .bool (decide (y107.2 = y110.2))), (98, .int .i64 y110.2), (97, .int .i64 y107.2), (96, .bool true), (96, .bool y169), (95, .bool y169), (94, .bool y169), (93, .agg [.bool x0.A_.Neg_, lsv (encI .u8) 1 x0.A_.D_, .int .i64 x0.A_.E_]), (92, .agg [.bool y104.1.Neg_, lsv (encI .u8) 1 y104.1.D_, .int .i64 y104.1.E_]), (91, .bool true), (91, .bool (decide (y104.2 = 0))), (90, .bool (decide (y104.2 = 0))), (89, .bool (decide (y104.2 = 0))), (88, .int .i64 y104.2), (87, .bool true), (87, .bool y160), (86, .bool y160), (85, .bool y160), (84, .agg [.bool y63.1.Neg_, lsv (encI .u8) 1 y63.1.D_, .int .i64 y63.1.E_]), (83, .bool true), (83, .bool y1), (82, .bool y1), (2, .bool false), (3, .ptr 0 0), (4, .ptr 1 0), (7, .bool y1), (8, .ptr 2 0), (10, .ptr 3 0), (12, .ptr 4 0), (13, .int .i64 y104.2), (14, .ptr 5 0), (15, .int .i64 y107.2), (16, .ptr 6 0), (17, .int .i64 y110.2)]) (H2 := [.box [.bool x0.A_.Neg_, lsv (encI .u8) 1 x0.A_.D_, .int .i64 x0.A_.E_], .box [.bool x0.B_.Neg_, lsv (encI .u8) 1 x0.B_.D_, .int .i64 x0.B_.E_], .box [.bool y63.1.Neg_, lsv (encI .u8) 1 y63.1.D_, .int .i64 y63.1.E_], .box [.bool y66.1.Neg_, lsv (encI .u8) 1 y66.1.D_, .int .i64 y66.1.E_], .box [.bool y104.1.Neg_, lsv (encI .u8) 1 y104.1.D_, .int .i64 y104.1.E_], .box [.bool y107.1.Neg_, lsv (encI .u8) 1 y107.1.D_, .int .i64 y107.1.E_], .box [.bool y110.1.Neg_, lsv (encI .u8) 1 y110.1.D_, .int .i64 y110.1.E_], .res, .res, .res, .res, .res, .res]) (by kernel_rfl) ?_
                  refine RJ.caseB 106 (b := y178) (by kernel_rfl) (fun hb181 => ?_) (fun hb181 => ?_)
                  · have h182 := condT hb181 h180
                    refine RJ.segD 2 (tr2 := [([], []), ([], []), ([4, 5], []), ([], [14, 15]), ([], []), ([], []), ([], []), ([], []), ([], []), ([], []), ([8, 9], []), ([0, 1], []), ([], [16, 17]), ([], []), ([], []), ([], []), ([], []), ([], []), ([], []), ([], []), ([12, 13], []), ([10, 11], []), ([], [18, 19]), ([], []), ([], []), ([4, 5], []), ([6, 7], [])]) (L2 := [(108, .agg [.bool y66.1.Neg_, lsv (encI .u8) 1 y66.1.D_, .int .i64 y66.1.E_]), (107, .agg [.bool y63.1.Neg_, lsv (encI .u8) 1 y63.1.D_, .int .i64 y63.1.E_]), (106, .bool true), (106, .bool y178), (105, .bool y178), (104, .bool y178), (103, .agg [.bool y107.1.Neg_, lsv (encI .u8) 1 y107.1.D_, .int .i64 y107.1.E_]), (102, .agg [.bool y110.1.Neg_, lsv (encI .u8) 1 y110.1.D_, .int .i64 y110.1.E_]), (101, .bool true), (101, .bool (decide (y107.2 = y110.2))), (100, .bool (decide (y107.2 = y110.2))), (99, .bool (decide (y107.2 = y110.2))), (98, .int .i64 y110.2), (97, .int .i64 y107.2), (96, .bool true), (96, .bool y169), (95, .bool y169), (94, .bool y169), (93, .agg [.bool x0.A_.Neg_, lsv (encI .u8) 1 x0.A_.D_, .int .i64 x0.A_.E_]), (92, .agg [.bool y104.1.Neg_, lsv (encI .u8) 1 y104.1.D_, .int .i64 y104.1.E_]), (91, .bool true), (91, .bool (decide (y104.2 = 0))), (90, .bool (decide (y104.2 = 0))), (89, .bool (decide (y104.2 = 0))), (88, .int .i64 y104.2), (87, .bool true), (87, .bool y160), (86, .bool y160), (85, .bool y160), (84, .agg [.bool y63.1.Neg_, lsv (encI .u8) 1 y63.1.D_, .int .i64 y63.1.E_]), (83, .bool true), (83, .bool y1), (82, .bool y1), (2, .bool false), (3, .ptr 0 0), (4, .ptr 1 0), (7, .bool y1), (8, .ptr 2 0), (10, .ptr 3 0), (12, .ptr 4 0), (13, .int .i64 y104.2), (14, .ptr 5 0), (15, .int .i64 y107.2), (16, .ptr 6 0), (17, .int .i64 y110.2)]) (H2 := [.box [.bool x0.A_.Neg_, lsv (encI .u8) 1 x0.A_.D_, .int .i64 x0.A_.E_], .box [.bool x0.B_.Neg_, lsv (encI .u8) 1 x0.B_.D_, .int .i64 x0.B_.E_], .box [.bool y63.1.Neg_, lsv (encI .u8) 1 y63.1.D_, .int .i64 y63.1.E_], .box [.bool y66.1.Neg_, lsv (encI .u8) 1 y66.1.D_, .int .i64 y66.1.E_], .box [.bool y104.1.Neg_, lsv (encI .u8) 1 y104.1.D_, .int .i64 y104.1.E_], .box [.bool y107.1.Neg_, lsv (encI .u8) 1 y107.1.D_, .int .i64 y107.1.E_], .box [.bool y110.1.Neg_, lsv (encI .u8) 1 y110.1.D_, .int .i64 y110.1.E_], .res, .res, .res, .res, .res, .res]) (by kernel_rfl) ?_
                    obtain ⟨y184, hy185, h186⟩ := bindS h182
                    refine RJ.call0 (d := (some 109)) (f := 17) (args := [.agg [.bool y63.1.Neg_, lsv (encI .u8) 1 y63.1.D_, .int .i64 y63.1.E_], .agg [.bool y66.1.Neg_, lsv (encI .u8) 1 y66.1.D_, .int .i64 y66.1.E_]]) (v := .int .i64 y184) (tr2 := [([], []), ([], []), ([4, 5], []), ([], [14, 15]), ([], []), ([], []), ([], []), ([], []), ([], []), ([], []), ([8, 9], []), ([0, 1], []), ([], [16, 17]), ([], []), ([], []), ([], []), ([], []), ([], []), ([], []), ([], []), ([12, 13], []), ([10, 11], []), ([], [18, 19]), ([], []), ([], []), ([4, 5], []), ([6, 7], []), ([], [20, 21])]) (by kernel_rfl) (by kernel_rfl) (.cons (Le.refl _) (.cons (Le.refl _) .nil)) (dec_Cmp_ok hy185) (by kernel_rfl) ?_
                    refine RJ.segD 2 (tr2 := [([], []), ([], []), ([4, 5], []), ([], [14, 15]), ([], []), ([], []), ([], []), ([], []), ([], []), ([], []), ([8, 9], []), ([0, 1], []), ([], [16, 17]), ([], []), ([], []), ([], []), ([], []), ([], []), ([], []), ([], []), ([12, 13], []), ([10, 11], []), ([], [18, 19]), ([], []), ([], []), ([4, 5], []), ([6, 7], []), ([], [20, 21]), ([0, 1], []), ([2, 3], [])]) (L2 := [(111, .agg [.bool x0.B_.Neg_, lsv (encI .u8) 1 x0.B_.D_, .int .i64 x0.B_.E_]), (110, .agg [.bool x0.A_.Neg_, lsv (encI .u8) 1 x0.A_.D_, .int .i64 x0.A_.E_]), (109, .int .i64 y184), (108, .agg [.bool y66.1.Neg_, lsv (encI .u8) 1 y66.1.D_, .int .i64 y66.1.E_]), (107, .agg [.bool y63.1.Neg_, lsv (encI .u8) 1 y63.1.D_, .int .i64 y63.1.E_]), (106, .bool true), (106, .bool y178), (105, .bool y178), (104, .bool y178), (103, .agg [.bool y107.1.Neg_, lsv (encI .u8) 1 y107.1.D_, .int .i64 y107.1.E_]), (102, .agg [.bool y110.1.Neg_, lsv (encI .u8) 1 y110.1.D_, .int .i64 y110.1.E_]), (101, .bool true), (101, .bool (decide (y107.2 = y110.2))), (100, .bool (decide (y107.2 = y110.2))), (99, .bool (decide (y107.2 = y110.2))), (98, .int .i64 y110.2), (97, .int .i64 y107.2), (96, .bool true), (96, .bool y169), (95, .bool y169), (94, .bool y169), (93, .agg [.bool x0.A_.Neg_, lsv (encI .u8) 1 x0.A_.D_, .int .i64 x0.A_.E_]), (92, .agg [.bool y104.1.Neg_, lsv (encI .u8) 1 y104.1.D_, .int .i64 y104.1.E_]), (91, .bool true), (91, .bool (decide (y104.2 = 0))), (90, .bool (decide (y104.2 = 0))), (89, .bool (decide (y104.2 = 0))), (88, .int .i64 y104.2), (87, .bool true), (87, .bool y160), (86, .bool y160), (85, .bool y160), (84, .agg [.bool y63.1.Neg_, lsv (encI .u8) 1 y63.1.D_, .int .i64 y63.1.E_]), (83, .bool true), (83, .bool y1), (82, .bool y1), (2, .bool false), (3, .ptr 0 0), (4, .ptr 1 0), (7, .bool y1), (8, .ptr 2 0), (10, .ptr 3 0), (12, .ptr 4 0), (13, .int .i64 y104.2), (14, .ptr 5 0), (15, .int .i64 y107.2), (16, .ptr 6 0), (17, .int .i64 y110.2)]) (H2 := [.box [.bool x0.A_.Neg_, lsv (encI .u8) 1 x0.A_.D_, .int .i64 x0.A_.E_], .box [.bool x0.B_.Neg_, lsv (encI .u8) 1 x0.B_.D_, .int .i64 x0.B_.E_], .box [.bool y63.1.Neg_, lsv (encI .u8) 1 y63.1.D_, .int .i64 y63.1.E_], .box [.bool y66.1.Neg_, lsv (encI .u8) 1 y66.1.D_, .int .i64 y66.1.E_], .box [.bool y104.1.Neg_, lsv (encI .u8) 1 y104.1.D_, .int .i64 y104.1.E_], .box [.bool y107.1.Neg_, lsv (encI .u8) 1 y107.1.D_, .int .i64 y107.1.E_], .box [.bool y110.1.Neg_, lsv (encI .u8) 1 y110.1.D_, .int .i64 y110.1.E_], .res, .res, .res, .res, .res, .res]) (by kernel_rfl) ?_
                    obtain ⟨y187, hy188, h189⟩ := bindS h186
                    refine RJ.call0 (d := (some 112)) (f := 17) (args := [.agg [.bool x0.A_.Neg_, lsv (encI .u8) 1 x0.A_.D_, .int .i64 x0.A_.E_], .agg [.bool x0.B_.Neg_, lsv (encI .u8) 1 x0.B_.D_, .int .i64 x0.B_.E_]]) (v := .int .i64 y187) (tr2 := [([], []), ([], []), ([4, 5], []), ([], [14, 15]), ([], []), ([], []), ([], []), ([], []), ([], []), ([], []), ([8, 9], []), ([0, 1], []), ([], [16, 17]), ([], []), ([], []), ([], []), ([], []), ([], []), ([], []), ([], []), ([12, 13], []), ([10, 11], []), ([], [18, 19]), ([], []), ([], []), ([4, 5], []), ([6, 7], []), ([], [20, 21]), ([0, 1], []), ([2, 3], []), ([], [22, 23])]) (by kernel_rfl) (by kernel_rfl) (.cons (Le.refl _) (.cons (Le.refl _) .nil)) (dec_Cmp_ok hy188) (by kernel_rfl) ?_
                    refine RJ.segD 3 (tr2 := [([], []), ([], []), ([4, 5], []), ([], [14, 15]), ([], []), ([], []), ([], []), ([], []), ([], []), ([], []), ([8, 9], []), ([0, 1], []), ([], [16, 17]), ([], []), ([], []), ([], []), ([], []), ([], []), ([], []), ([], []), ([12, 13], []), ([10, 11], []), ([], [18, 19]), ([], []), ([], []), ([4, 5], []), ([6, 7], []), ([], [20, 21]), ([0, 1], []), ([2, 3], []), ([], [22, 23]), ([], []), ([], []), ([], [])]) (L2 := [(115, .bool (decide (y184 = y187))), (114, .bool (decide (y184 = y187))), (113, .bool (decide (y184 = y187))), (112, .int .i64 y187), (111, .agg [.bool x0.B_.Neg_, lsv (encI .u8) 1 x0.B_.D_, .int .i64 x0.B_.E_]), (110, .agg [.bool x0.A_.Neg_, lsv (encI .u8) 1 x0.A_.D_, .int .i64 x0.A_.E_]), (109, .int .i64 y184), (108, .agg [.bool y66.1.Neg_, lsv (encI .u8) 1 y66.1.D_, .int .i64 y66.1.E_]), (107, .agg [.bool y63.1.Neg_, lsv (encI .u8) 1 y63.1.D_, .int .i64 y63.1.E_]), (106, .bool true), (106, .bool y178), (105, .bool y178), (104, .bool y178), (103, .agg [.bool y107.1.Neg_, lsv (encI .u8) 1 y107.1.D_, .int .i64 y107.1.E_]), (102, .agg [.bool y110.1.Neg_, lsv (encI .u8) 1 y110.1.D_, .int .i64 y110.1.E_]), (101, .bool true), (101, .bool (decide (y107.2 = y110.2))), (100, .bool (decide (y107.2 = y110.2))), (99, .bool (decide (y107.2 = y110.2))), (98, .int .i64 y110.2), (97, .int .i64 y107.2), (96, .bool true), (96, .bool y169), (95, .bool y169), (94, .bool y169), (93, .agg [.bool x0.A_.Neg_, lsv (encI .u8) 1 x0.A_.D_, .int .i64 x0.A_.E_]), (92, .agg [.bool y104.1.Neg_, lsv (encI .u8) 1 y104.1.D_, .int .i64 y104.1.E_]), (91, .bool true), (91, .bool (decide (y104.2 = 0))), (90, .bool (decide (y104.2 = 0))), (89, .bool (decide (y104.2 = 0))), (88, .int .i64 y104.2), (87, .bool true), (87, .bool y160), (86, .bool y160), (85, .bool y160), (84, .agg [.bool y63.1.Neg_, lsv (encI .u8) 1 y63.1.D_, .int .i64 y63.1.E_]), (83, .bool true), (83, .bool y1), (82, .bool y1), (2, .bool false), (3, .ptr 0 0), (4, .ptr 1 0), (7, .bool y1), (8, .ptr 2 0), (10, .ptr 3 0), (12, .ptr 4 0), (13, .int .i64 y104.2), (14, .ptr 5 0), (15, .int .i64 y107.2), (16, .ptr 6 0), (17, .int .i64 y110.2)]) (H2 := [.box [.bool x0.A_.Neg_, lsv (encI .u8) 1 x0.A_.D_, .int .i64 x0.A_.E_], .box [.bool x0.B_.Neg_, lsv (encI .u8) 1 x0.B_.D_, .int .i64 x0.B_.E_], .box [.bool y63.1.Neg_, lsv (encI .u8) 1 y63.1.D_, .int .i64 y63.1.E_], .box [.bool y66.1.Neg_, lsv (encI .u8) 1 y66.1.D_, .int .i64 y66.1.E_], .box [.bool y104.1.Neg_, lsv (encI .u8) 1 y104.1.D_, .int .i64 y104.1.E_], .box [.bool y107.1.Neg_, lsv (encI .u8) 1 y107.1.D_, .int .i64 y107.1.E_], .box [.bool y110.1.Neg_, lsv (encI .u8) 1 y110.1.D_, .int .i64 y110.1.E_], .res, .res, .res, .res, .res, .res]) (by kernel_rfl) ?_
                    refine RJ.caseB 115 (b := (decide (y184 = y187))) (by kernel_rfl) (fun hb190 => ?_) (fun hb190 => ?_)
                    · have h191 := condT hb190 h189
                      refine RJ.segD 4 (tr2 := [([], []), ([], []), ([4, 5], []), ([], [14, 15]), ([], []), ([], []), ([], []), ([], []), ([], []), ([], []), ([8, 9], []), ([0, 1], []), ([], [16, 17]), ([], []), ([], []), ([], []), ([], []), ([], []), ([], []), ([], []), ([12, 13], []), ([10, 11], []), ([], [18, 19]), ([], []), ([], []), ([4, 5], []), ([6, 7], []), ([], [20, 21]), ([0, 1], []), ([2, 3], []), ([], [22, 23]), ([], []), ([], []), ([], []), ([], []), ([4, 5], []), ([], []), ([0, 1], [])]) (L2 := [(119, lsv (encI .u8) 1 x0.A_.D_), (118, .ptr 0 1), (117, lsv (encI .u8) 1 y63.1.D_), (116, .ptr 2 1), (115, .bool true), (115, .bool (decide (y184 = y187))), (114, .bool (decide (y184 = y187))), (113, .bool (decide (y184 = y187))), (112, .int .i64 y187), (111, .agg [.bool x0.B_.Neg_, lsv (encI .u8) 1 x0.B_.D_, .int .i64 x0.B_.E_]), (110, .agg [.bool x0.A_.Neg_, lsv (encI .u8) 1 x0.A_.D_, .int .i64 x0.A_.E_]), (109, .int .i64 y184), (108, .agg [.bool y66.1.Neg_, lsv (encI .u8) 1 y66.1.D_, .int .i64 y66.1.E_]), (107, .agg [.bool y63.1.Neg_, lsv (encI .u8) 1 y63.1.D_, .int .i64 y63.1.E_]), (106, .bool true), (106, .bool y178), (105, .bool y178), (104, .bool y178), (103, .agg [.bool y107.1.Neg_, lsv (encI .u8) 1 y107.1.D_, .int .i64 y107.1.E_]), (102, .agg [.bool y110.1.Neg_, lsv (encI .u8) 1 y110.1.D_, .int .i64 y110.1.E_]), (101, .bool true), (101, .bool (decide (y107.2 = y110.2))), (100, .bool (decide (y107.2 = y110.2))), (99, .bool (decide (y107.2 = y110.2))), (98, .int .i64 y110.2), (97, .int .i64 y107.2), (96, .bool true), (96, .bool y169), (95, .bool y169), (94, .bool y169), (93, .agg [.bool x0.A_.Neg_, lsv (encI .u8) 1 x0.A_.D_, .int .i64 x0.A_.E_]), (92, .agg [.bool y104.1.Neg_, lsv (encI .u8) 1 y104.1.D_, .int .i64 y104.1.E_]), (91, .bool true), (91, .bool (decide (y104.2 = 0))), (90, .bool (decide (y104.2 = 0))), (89, .bool (decide (y104.2 = 0))), (88, .int .i64 y104.2), (87, .bool true), (87, .bool y160), (86, .bool y160), (85, .bool y160), (84, .agg [.bool y63.1.Neg_, lsv (encI .u8) 1 y63.1.D_, .int .i64 y63.1.E_]), (83, .bool true), (83, .bool y1), (82, .bool y1), (2, .bool false), (3, .ptr 0 0), (4, .ptr 1 0), (7, .bool y1), (8, .ptr 2 0), (10, .ptr 3 0), (12, .ptr 4 0), (13, .int .i64 y104.2), (14, .ptr 5 0), (15, .int .i64 y107.2), (16, .ptr 6 0), (17, .int .i64 y110.2)]) (H2 := [.box [.bool x0.A_.Neg_, lsv (encI .u8) 1 x0.A_.D_, .int .i64 x0.A_.E_], .box [.bool x0.B_.Neg_, lsv (encI .u8) 1 x0.B_.D_, .int .i64 x0.B_.E_], .box [.bool y63.1.Neg_, lsv (encI .u8) 1 y63.1.D_, .int .i64 y63.1.E_], .box [.bool y66.1.Neg_, lsv (encI .u8) 1 y66.1.D_, .int .i64 y66.1.E_], .box [.bool y104.1.Neg_, lsv (encI .u8) 1 y104.1.D_, .int .i64 y104.1.E_], .box [.bool y107.1.Neg_, lsv (encI .u8) 1 y107.1.D_, .int .i64 y107.1.E_], .box [.bool y110.1.Neg_, lsv (encI .u8) 1 y110.1.D_, .int .i64 y110.1.E_], .res, .res, .res, .res, .res, .res]) (by kernel_rfl) ?_
                      obtain ⟨y193, hy194, h195⟩ := bindS h191
                      refine RJ.call0 (d := (some 120)) (f := 19) (args := [lsv (encI .u8) 1 y63.1.D_, lsv (encI .u8) 1 x0.A_.D_]) (v := .bool y193) (tr2 := [([], []), ([], []), ([4, 5], []), ([], [14, 15]), ([], []), ([], []), ([], []), ([], []), ([], []), ([], []), ([8, 9], []), ([0, 1], []), ([], [16, 17]), ([], []), ([], []), ([], []), ([], []), ([], []), ([], []), ([], []), ([12, 13], []), ([10, 11], []), ([], [18, 19]), ([], []), ([], []), ([4, 5], []), ([6, 7], []), ([], [20, 21]), ([0, 1], []), ([2, 3], []), ([], [22, 23]), ([], []), ([], []), ([], []), ([], []), ([4, 5], []), ([], []), ([0, 1], []), ([], [24, 25])]) (by kernel_rfl) (by kernel_rfl) (.cons (Le.refl _) (.cons (Le.refl _) .nil)) (exergueref01_Row_ok hy194) (by kernel_rfl) ?_
                      refine RJ.segD 2 (tr2 := [([], []), ([], []), ([4, 5], []), ([], [14, 15]), ([], []), ([], []), ([], []), ([], []), ([], []), ([], []), ([8, 9], []), ([0, 1], []), ([], [16, 17]), ([], []), ([], []), ([], []), ([], []), ([], []), ([], []), ([], []), ([12, 13], []), ([10, 11], []), ([], [18, 19]), ([], []), ([], []), ([4, 5], []), ([6, 7], []), ([], [20, 21]), ([0, 1], []), ([2, 3], []), ([], [22, 23]), ([], []), ([], []), ([], []), ([], []), ([4, 5], []), ([], []), ([0, 1], []), ([], [24, 25]), ([], []), ([], [])]) (L2 := [(2, .bool y193), (121, .bool y193), (120, .bool y193), (119, lsv (encI .u8) 1 x0.A_.D_), (118, .ptr 0 1), (117, lsv (encI .u8) 1 y63.1.D_), (116, .ptr 2 1), (115, .bool true), (115, .bool (decide (y184 = y187))), (114, .bool (decide (y184 = y187))), (113, .bool (decide (y184 = y187))), (112, .int .i64 y187), (111, .agg [.bool x0.B_.Neg_, lsv (encI .u8) 1 x0.B_.D_, .int .i64 x0.B_.E_]), (110, .agg [.bool x0.A_.Neg_, lsv (encI .u8) 1 x0.A_.D_, .int .i64 x0.A_.E_]), (109, .int .i64 y184), (108, .agg [.bool y66.1.Neg_, lsv (encI .u8) 1 y66.1.D_, .int .i64 y66.1.E_]), (107, .agg [.bool y63.1.Neg_, lsv (encI .u8) 1 y63.1.D_, .int .i64 y63.1.E_]), (106, .bool true), (106, .bool y178), (105, .bool y178), (104, .bool y178), (103, .agg [.bool y107.1.Neg_, lsv (encI .u8) 1 y107.1.D_, .int .i64 y107.1.E_]), (102, .agg [.bool y110.1.Neg_, lsv (encI .u8) 1 y110.1.D_, .int .i64 y110.1.E_]), (101, .bool true), (101, .bool (decide (y107.2 = y110.2))), (100, .bool (decide (y107.2 = y110.2))), (99, .bool (decide (y107.2 = y110.2))), (98, .int .i64 y110.2), (97, .int .i64 y107.2), (96, .bool true), (96, .bool y169), (95, .bool y169), (94, .bool y169), (93, .agg [.bool x0.A_.Neg_, lsv (encI .u8) 1 x0.A_.D_, .int .i64 x0.A_.E_]), (92, .agg [.bool y104.1.Neg_, lsv (encI .u8) 1 y104.1.D_, .int .i64 y104.1.E_]), (91, .bool true), (91, .bool (decide (y104.2 = 0))), (90, .bool (decide (y104.2 = 0))), (89, .bool (decide (y104.2 = 0))), (88, .int .i64 y104.2), (87, .bool true), (87, .bool y160), (86, .bool y160), (85, .bool y160), (84, .agg [.bool y63.1.Neg_, lsv (encI .u8) 1 y63.1.D_, .int .i64 y63.1.E_]), (83, .bool true), (83, .bool y1), (82, .bool y1), (2, .bool false), (3, .ptr 0 0), (4, .ptr 1 0), (7, .bool y1), (8, .ptr 2 0), (10, .ptr 3 0), (12, .ptr 4 0), (13, .int .i64 y104.2), (14, .ptr 5 0), (15, .int .i64 y107.2), (16, .ptr 6 0), (17, .int .i64 y110.2)]) (H2 := [.box [.bool x0.A_.Neg_, lsv (encI .u8) 1 x0.A_.D_, .int .i64 x0.A_.E_], .box [.bool x0.B_.Neg_, lsv (encI .u8) 1 x0.B_.D_, .int .i64 x0.B_.E_], .box [.bool y63.1.Neg_, lsv (encI .u8) 1 y63.1.D_, .int .i64 y63.1.E_], .box [.bool y66.1.Neg_, lsv (encI .u8) 1 y66.1.D_, .int .i64 y66.1.E_], .box [.bool y104.1.Neg_, lsv (encI .u8) 1 y104.1.D_, .int .i64 y104.1.E_], .box [.bool y107.1.Neg_, lsv (encI .u8) 1 y107.1.D_, .int .i64 y107.1.E_], .box [.bool y110.1.Neg_, lsv (encI .u8) 1 y110.1.D_, .int .i64 y110.1.E_], .res, .res, .res, .res, .res, .res]) (by kernel_rfl) ?_
                      refine RJ.end (by kernel_rfl) ?_
                      obtain rfl := Option.some.inj h195
                      refine PJ.wk (Wk.sel (L2 := [(2, .bool y193)]) (H2 := []) 0 (by rw [hFH]; rfl) hFD [] (by kernel_rfl) (by kernel_rfl) (by decide) (by kernel_rfl) (by kernel_rfl) (by kernel_rfl) (by kernel_rfl)) ?_
                      exact PJ.cutN [2] (by kernel_rfl) (by kernel_rfl)
                    · have h192 := condF hb190 h189
                      refine RJ.segD 7 (tr2 := [([], []), ([], []), ([4, 5], []), ([], [14, 15]), ([], []), ([], []), ([], []), ([], []), ([], []), ([], []), ([8, 9], []), ([0, 1], []), ([], [16, 17]), ([], []), ([], []), ([], []), ([], []), ([], []), ([], []), ([], []), ([12, 13], []), ([10, 11], []), ([], [18, 19]), ([], []), ([], []), ([4, 5], []), ([6, 7], []), ([], [20, 21]), ([0, 1], []), ([2, 3], []), ([], [22, 23]), ([], []), ([], []), ([], []), ([], []), ([], []), ([], []), ([], []), ([], [24, 25]), ([], []), ([], [])]) (L2 := [(2, .bool false), (121, .bool false), (120, .tup []), (119, .tup []), (118, .tup []), (117, .tup []), (116, .tup []), (115, .bool false), (115, .bool (decide (y184 = y187))), (114, .bool (decide (y184 = y187))), (113, .bool (decide (y184 = y187))), (112, .int .i64 y187), (111, .agg [.bool x0.B_.Neg_, lsv (encI .u8) 1 x0.B_.D_, .int .i64 x0.B_.E_]), (110, .agg [.bool x0.A_.Neg_, lsv (encI .u8) 1 x0.A_.D_, .int .i64 x0.A_.E_]), (109, .int .i64 y184), (108, .agg [.bool y66.1.Neg_, lsv (encI .u8) 1 y66.1.D_, .int .i64 y66.1.E_]), (107, .agg [.bool y63.1.Neg_, lsv (encI .u8) 1 y63.1.D_, .int .i64 y63.1.E_]), (106, .bool true), (106, .bool y178), (105, .bool y178), (104, .bool y178), (103, .agg [.bool y107.1.Neg_, lsv (encI .u8) 1 y107.1.D_, .int .i64 y107.1.E_]), (102, .agg [.bool y110.1.Neg_, lsv (encI .u8) 1 y110.1.D_, .int .i64 y110.1.E_]), (101, .bool true), (101, .bool (decide (y107.2 = y110.2))), (100, .bool (decide (y107.2 = y110.2))), (99, .bool (decide (y107.2 = y110.2))), (98, .int .i64 y110.2), (97, .int .i64 y107.2), (96, .bool true), (96, .bool y169), (95, .bool y169), (94, .bool y169), (93, .agg [.bool x0.A_.Neg_, lsv (encI .u8) 1 x0.A_.D_, .int .i64 x0.A_.E_]), (92, .agg [.bool y104.1.Neg_, lsv (encI .u8) 1 y104.1.D_, .int .i64 y104.1.E_]), (91, .bool true), (91, .bool (decide (y104.2 = 0))), (90, .bool (decide (y104.2 = 0))), (89, .bool (decide (y104.2 = 0))), (88, .int .i64 y104.2), (87, .bool true), (87, .bool y160), (86, .bool y160), (85, .bool y160), (84, .agg [.bool y63.1.Neg_, lsv (encI .u8) 1 y63.1.D_, .int .i64 y63.1.E_]), (83, .bool true), (83, .bool y1), (82, .bool y1), (2, .bool false), (3, .ptr 0 0), (4, .ptr 1 0), (7, .bool y1), (8, .ptr 2 0), (10, .ptr 3 0), (12, .ptr 4 0), (13, .int .i64 y104.2), (14, .ptr 5 0), (15, .int .i64 y107.2), (16, .ptr 6 0), (17, .int .i64 y110.2)]) (H2 := [.box [.bool x0.A_.Neg_, lsv (encI .u8) 1 x0.A_.D_, .int .i64 x0.A_.E_], .box [.bool x0.B_.Neg_, lsv (encI .u8) 1 x0.B_.D_, .int .i64 x0.B_.E_], .box [.bool y63.1.Neg_, lsv (encI .u8) 1 y63.1.D_, .int .i64 y63.1.E_], .box [.bool y66.1.Neg_, lsv (encI .u8) 1 y66.1.D_, .int .i64 y66.1.E_], .box [.bool y104.1.Neg_, lsv (encI .u8) 1 y104.1.D_, .int .i64 y104.1.E_], .box [.bool y107.1.Neg_, lsv (encI .u8) 1 y107.1.D_, .int .i64 y107.1.E_], .box [.bool y110.1.Neg_, lsv (encI .u8) 1 y110.1.D_, .int .i64 y110.1.E_], .res, .res, .res, .res, .res, .res]) (by kernel_rfl) ?_
                      refine RJ.end (by kernel_rfl) ?_
                      obtain rfl := Option.some.inj h192
                      refine PJ.wk (Wk.sel (L2 := [(2, .bool false)]) (H2 := []) 0 (by rw [hFH]; rfl) hFD [] (by kernel_rfl) (by kernel_rfl) (by decide) (by kernel_rfl) (by kernel_rfl) (by kernel_rfl) (by kernel_rfl)) ?_
                      exact PJ.cutN [2] (by kernel_rfl) (by kernel_rfl)
                  · have h183 := condF hb181 h180
                    refine RJ.segD 16 (tr2 := [([], []), ([], []), ([4, 5], []), ([], [14, 15]), ([], []), ([], []), ([], []), ([], []), ([], []), ([], []), ([8, 9], []), ([0, 1], []), ([], [16, 17]), ([], []), ([], []), ([], []), ([], []), ([], []), ([], []), ([], []), ([12, 13], []), ([10, 11], []), ([], [18, 19]), ([], []), ([], []), ([], []), ([], []), ([], [20, 21]), ([], []), ([], []), ([], [22, 23]), ([], []), ([], []), ([], []), ([], []), ([], []), ([], []), ([], []), ([], [24, 25]), ([], []), ([], [])]) (L2 := [(2, .bool false), (121, .bool false), (120, .tup []), (119, .tup []), (118, .tup []), (117, .tup []), (116, .tup []), (115, .bool false), (114, .bool false), (113, .tup []), (112, .tup []), (111, .tup []), (110, .tup []), (109, .tup []), (108, .tup []), (107, .tup []), (106, .bool false), (106, .bool y178), (105, .bool y178), (104, .bool y178), (103, .agg [.bool y107.1.Neg_, lsv (encI .u8) 1 y107.1.D_, .int .i64 y107.1.E_]), (102, .agg [.bool y110.1.Neg_, lsv (encI .u8) 1 y110.1.D_, .int .i64 y110.1.E_]), (101, .bool true), (101, .bool (decide (y107.2 = y110.2))), (100, .bool (decide (y107.2 = y110.2))), (99, .bool (decide (y107.2 = y110.2))), (98, .int .i64 y110.2), (97, .int .i64 y107.2), (96, .bool true), (96, .bool y169), (95, .bool y169), (94, .bool y169), (93, .agg [.bool x0.A_.Neg_, lsv (encI .u8) 1 x0.A_.D_, .int .i64 x0.A_.E_]), (92, .agg [.bool y104.1.Neg_, lsv (encI .u8) 1 y104.1.D_, .int .i64 y104.1.E_]), (91, .bool true), (91, .bool (decide (y104.2 = 0))), (90, .bool (decide (y104.2 = 0))), (89, .bool (decide (y104.2 = 0))), (88, .int .i64 y104.2), (87, .bool true), (87, .bool y160), (86, .bool y160), (85, .bool y160), (84, .agg [.bool y63.1.Neg_, lsv (encI .u8) 1 y63.1.D_, .int .i64 y63.1.E_]), (83, .bool true), (83, .bool y1), (82, .bool y1), (2, .bool false), (3, .ptr 0 0), (4, .ptr 1 0), (7, .bool y1), (8, .ptr 2 0), (10, .ptr 3 0), (12, .ptr 4 0), (13, .int .i64 y104.2), (14, .ptr 5 0), (15, .int .i64 y107.2), (16, .ptr 6 0), (17, .int .i64 y110.2)]) (H2 := [.box [.bool x0.A_.Neg_, lsv (encI .u8) 1 x0.A_.D_, .int .i64 x0.A_.E_], .box [.bool x0.B_.Neg_, lsv (encI .u8) 1 x0.B_.D_, .int .i64 x0.B_.E_], .box [.bool y63.1.Neg_, lsv (encI .u8) 1 y63.1.D_, .int .i64 y63.1.E_], .box [.bool y66.1.Neg_, lsv (encI .u8) 1 y66.1.D_, .int .i64 y66.1.E_], .box [.bool y104.1.Neg_, lsv (encI .u8) 1 y104.1.D_, .int .i64 y104.1.E_], .box [.bool y107.1.Neg_, lsv (encI .u8) 1 y107.1.D_, .int .i64 y107.1.E_], .box [.bool y110.1.Neg_, lsv (encI .u8) 1 y110.1.D_, .int .i64 y110.1.E_], .res, .res, .res, .res, .res, .res]) (by kernel_rfl) ?_
                    refine RJ.end (by kernel_rfl) ?_
                    obtain rfl := Option.some.inj h183
                    refine PJ.wk (Wk.sel (L2 := [(2, .bool false)]) (H2 := []) 0 (by rw [hFH]; rfl) hFD [] (by kernel_rfl) (by kernel_rfl) (by decide) (by kernel_rfl) (by kernel_rfl) (by kernel_rfl) (by kernel_rfl)) ?_
                    exact PJ.cutN [2] (by kernel_rfl) (by kernel_rfl)
                · have h177 := condF hb175 h173
                  refine RJ.segD 21 (tr2 := [([], []), ([], []), ([4, 5], []), ([], [14, 15]), ([], []), ([], []), ([], []), ([], []), ([], []), ([], []), ([8, 9], []), ([0, 1], []), ([], [16, 17]), ([], []), ([], []), ([], []), ([], []), ([], []), ([], []), ([], []), ([], []), ([], []), ([], [18, 19]), ([], []), ([], []), ([], []), ([], []), ([], [20, 21]), ([], []), ([], []), ([], [22, 23]), ([], []), ([], []), ([], []), ([], []), ([], []), ([], []), ([], []), ([], [24, 25]), ([], []), ([], [])]) (L2 := [(2, .bool false), (121, .bool false), (120, .tup []), (119, .tup []), (118, .tup []), (117, .tup []), (116, .tup []), (115, .bool false), (114, .bool false), (113, .tup []), (112, .tup []), (111, .tup []), (110, .tup []), (109, .tup []), (108, .tup []), (107, .tup []), (106, .bool false), (105, .bool false), (104, .tup []), (103, .tup []), (102, .tup []), (101, .bool false), (101, .bool (decide (y107.2 = y110.2))), (100, .bool (decide (y107.2 = y110.2))), (99, .bool (decide (y107.2 = y110.2))), (98, .int .i64 y110.2), (97, .int .i64 y107.2), (96, .bool true), (96, .bool y169), (95, .bool y169), (94, .bool y169), (93, .agg [.bool x0.A_.Neg_, lsv (encI .u8) 1 x0.A_.D_, .int .i64 x0.A_.E_]), (92, .agg [.bool y104.1.Neg_, lsv (encI .u8) 1 y104.1.D_, .int .i64 y104.1.E_]), (91, .bool true), (91, .bool (decide (y104.2 = 0))), (90, .bool (decide (y104.2 = 0))), (89, .bool (decide (y104.2 = 0))), (88, .int .i64 y104.2), (87, .bool true), (87, .bool y160), (86, .bool y160), (85, .bool y160), (84, .agg [.bool y63.1.Neg_, lsv (encI .u8) 1 y63.1.D_, .int .i64 y63.1.E_]), (83, .bool true), (83, .bool y1), (82, .bool y1), (2, .bool false), (3, .ptr 0 0), (4, .ptr 1 0), (7, .bool y1), (8, .ptr 2 0), (10, .ptr 3 0), (12, .ptr 4 0), (13, .int .i64 y104.2), (14, .ptr 5 0), (15, .int .i64 y107.2), (16, .ptr 6 0), (17, .int .i64 y110.2)]) (H2 := [.box [.bool x0.A_.Neg_, lsv (encI .u8) 1 x0.A_.D_, .int .i64 x0.A_.E_], .box [.bool x0.B_.Neg_, lsv (encI .u8) 1 x0.B_.D_, .int .i64 x0.B_.E_], .box [.bool y63.1.Neg_, lsv (encI .u8) 1 y63.1.D_, .int .i64 y63.1.E_], .box [.bool y66.1.Neg_, lsv (encI .u8) 1 y66.1.D_, .int .i64 y66.1.E_], .box [.bool y104.1.Neg_, lsv (encI .u8) 1 y104.1.D_, .int .i64 y104.1.E_], .box [.bool y107.1.Neg_, lsv (encI .u8) 1 y107.1.D_, .int .i64 y107.1.E_], .box [.bool y110.1.Neg_, lsv (encI .u8) 1 y110.1.D_, .int .i64 y110.1.E_], .res, .res, .res, .res, .res, .res]) (by kernel_rfl) ?_
                  refine RJ.end (by kernel_rfl) ?_
                  obtain rfl := Option.some.inj h177
                  refine PJ.wk (Wk.sel (L2 := [(2, .bool false)]) (H2 := []) 0 (by rw [hFH]; rfl) hFD [] (by kernel_rfl) (by kernel_rfl) (by decide) (by kernel_rfl) (by kernel_rfl) (by kernel_rfl) (by kernel_rfl)) ?_
                  exact PJ.cutN [2] (by kernel_rfl) (by kernel_rfl)
              · have h174 := condF hb172 h171
                refine RJ.segD 26 (tr2 := [([], []), ([], []), ([4, 5], []), ([], [14, 15]), ([], []), ([], []), ([], []), ([], []), ([], []), ([], []), ([8, 9], []), ([0, 1], []), ([], [16, 17]), ([], []), ([], []), ([], []), ([], []), ([], []), ([], []), ([], []), ([], []), ([], []), ([], [18, 19]), ([], []), ([], []), ([], []), ([], []), ([], [20, 21]), ([], []), ([], []), ([], [22, 23]), ([], []), ([], []), ([], []), ([], []), ([], []), ([], []), ([], []), ([], [24, 25]), ([], []), ([], [])]) (L2 := [(2, .bool false), (121, .bool false), (120, .tup []), (119, .tup []), (118, .tup []), (117, .tup []), (116, .tup []), (115, .bool false), (114, .bool false), (113, .tup []), (112, .tup []), (111, .tup []), (110, .tup []), (109, .tup []), (108, .tup []), (107, .tup []), (106, .bool false), (105, .bool false), (104, .tup []), (103, .tup []), (102, .tup []), (101, .bool false), (100, .bool false), (99, .tup []), (98, .tup []), (97, .tup []), (96, .bool false), (96, .bool y169), (95, .bool y169), (94, .bool y169), (93, .agg [.bool x0.A_.Neg_, lsv (encI .u8) 1 x0.A_.D_, .int .i64 x0.A_.E_]), (92, .agg [.bool y104.1.Neg_, lsv (encI .u8) 1 y104.1.D_, .int .i64 y104.1.E_]), (91, .bool true), (91, .bool (decide (y104.2 = 0))), (90, .bool (decide (y104.2 = 0))), (89, .bool (decide (y104.2 = 0))), (88, .int .i64 y104.2), (87, .bool true), (87, .bool y160), (86, .bool y160), (85, .bool y160), (84, .agg [.bool y63.1.Neg_, lsv (encI .u8) 1 y63.1.D_, .int .i64 y63.1.E_]), (83, .bool true), (83, .bool y1), (82, .bool y1), (2, .bool false), (3, .ptr 0 0), (4, .ptr 1 0), (7, .bool y1), (8, .ptr 2 0), (10, .ptr 3 0), (12, .ptr 4 0), (13, .int .i64 y104.2), (14, .ptr 5 0), (15, .int .i64 y107.2), (16, .ptr 6 0), (17, .int .i64 y110.2)]) (H2 := [.box [.bool x0.A_.Neg_, lsv (encI .u8) 1 x0.A_.D_, .int .i64 x0.A_.E_], .box [.bool x0.B_.Neg_, lsv (encI .u8) 1 x0.B_.D_, .int .i64 x0.B_.E_], .box [.bool y63.1.Neg_, lsv (encI .u8) 1 y63.1.D_, .int .i64 y63.1.E_], .box [.bool y66.1.Neg_, lsv (encI .u8) 1 y66.1.D_, .int .i64 y66.1.E_], .box [.bool y104.1.Neg_, lsv (encI .u8) 1 y104.1.D_, .int .i64 y104.1.E_], .box [.bool y107.1.Neg_, lsv (encI .u8) 1 y107.1.D_, .int .i64 y107.1.E_], .box [.bool y110.1.Neg_, lsv (encI .u8) 1 y110.1.D_, .int .i64 y110.1.E_], .res, .res, .res, .res, .res, .res]) (by kernel_rfl) ?_
                refine RJ.end (by kernel_rfl) ?_
                obtain rfl := Option.some.inj h174
                refine PJ.wk (Wk.sel (L2 := [(2, .bool false)]) (H2 := []) 0 (by rw [hFH]; rfl) hFD [] (by kernel_rfl) (by kernel_rfl) (by decide) (by kernel_rfl) (by kernel_rfl) (by kernel_rfl) (by kernel_rfl)) ?_
                exact PJ.cutN [2] (by kernel_rfl) (by kernel_rfl)
            · have h168 := condF hb166 h164
              refine RJ.segD 31 (tr2 := [([], []), ([], []), ([4, 5], []), ([], [14, 15]), ([], []), ([], []), ([], []), ([], []), ([], []), ([], []), ([], []), ([], []), ([], [16, 17]), ([], []), ([], []), ([], []), ([], []), ([], []), ([], []), ([], []), ([], []), ([], []), ([], [18, 19]), ([], []), ([], []), ([], []), ([], []), ([], [20, 21]), ([], []), ([], []), ([], [22, 23]), ([], []), ([], []), ([], []), ([], []), ([], []), ([], []), ([], []), ([], [24, 25]), ([], []), ([], [])]) (L2 := [(2, .bool false), (121, .bool false), (120, .tup []), (119, .tup []), (118, .tup []), (117, .tup []), (116, .tup []), (115, .bool false), (114, .bool false), (113, .tup []), (112, .tup []), (111, .tup []), (110, .tup []), (109, .tup []), (108, .tup []), (107, .tup []), (106, .bool false), (105, .bool false), (104, .tup []), (103, .tup []), (102, .tup []), (101, .bool false), (100, .bool false), (99, .tup []), (98, .tup []), (97, .tup []), (96, .bool false), (95, .bool false), (94, .tup []), (93, .tup []), (92, .tup []), (91, .bool false), (91, .bool (decide (y104.2 = 0))), (90, .bool (decide (y104.2 = 0))), (89, .bool (decide (y104.2 = 0))), (88, .int .i64 y104.2), (87, .bool true), (87, .bool y160), (86, .bool y160), (85, .bool y160), (84, .agg [.bool y63.1.Neg_, lsv (encI .u8) 1 y63.1.D_, .int .i64 y63.1.E_]), (83, .bool true), (83, .bool y1), (82, .bool y1), (2, .bool false), (3, .ptr 0 0), (4, .ptr 1 0), (7, .bool y1), (8, .ptr 2 0), (10, .ptr 3 0), (12, .ptr 4 0), (13, .int .i64 y104.2), (14, .ptr 5 0), (15, .int .i64 y107.2), (16, .ptr 6 0), (17, .int .i64 y110.2)]) (H2 := [.box [.bool x0.A_.Neg_, lsv (encI .u8) 1 x0.A_.D_, .int .i64 x0.A_.E_], .box [.bool x0.B_.Neg_, lsv (encI .u8) 1 x0.B_.D_, .int .i64 x0.B_.E_], .box [.bool y63.1.Neg_, lsv (encI .u8) 1 y63.1.D_, .int .i64 y63.1.E_], .box [.bool y66.1.Neg_, lsv (encI .u8) 1 y66.1.D_, .int .i64 y66.1.E_], .box [.bool y104.1.Neg_, lsv (encI .u8) 1 y104.1.D_, .int .i64 y104.1.E_], .box [.bool y107.1.Neg_, lsv (encI .u8) 1 y107.1.D_, .int .i64 y107.1.E_], .box [.bool y110.1.Neg_, lsv (encI .u8) 1 y110.1.D_, .int .i64 y110.1.E_], .res, .res, .res, .res, .res, .res]) (by kernel_rfl) ?_
              refine RJ.end (by kernel_rfl) ?_
              obtain rfl := Option.some.inj h168
              refine PJ.wk (Wk.sel (L2 := [(2, .bool false)]) (H2 := []) 0 (by rw [hFH]; rfl) hFD [] (by kernel_rfl) (by kernel_rfl) (by decide) (by kernel_rfl) (by kernel_rfl) (by kernel_rfl) (by kernel_rfl)) ?_
              exact PJ.cutN [2] (by kernel_rfl) (by kernel_rfl)
          · have h165 := condF hb163 h162
            refine RJ.segD 35 (tr2 := [([], []), ([], []), ([4, 5], []), ([], [14, 15]), ([], []), ([], []), ([], []), ([], []), ([], []), ([], []), ([], []), ([], []), ([], [16, 17]), ([], []), ([], []), ([], []), ([], []), ([], []), ([], []), ([], []), ([], []), ([], []), ([], [18, 19]), ([], []), ([], []), ([], []), ([], []), ([], [20, 21]), ([], []), ([], []), ([], [22, 23]), ([], []), ([], []), ([], []), ([], []), ([], []), ([], []), ([], []), ([], [24, 25]), ([], []), ([], [])]) (L2 := [(2, .bool false), (121, .bool false), (120, .tup []), (119, .tup []), (118, .tup []), (117, .tup []), (116, .tup []), (115, .bool false), (114, .bool false), (113, .tup []), (112, .tup []), (111, .tup []), (110, .tup []), (109, .tup []), (108, .tup []), (107, .tup []), (106, .bool false), (105, .bool false), (104, .tup []), (103, .tup []), (102, .tup []), (101, .bool false), (100, .bool false), (99, .tup []), (98, .tup []), (97, .tup []), (96, .bool false), (95, .bool false), (94, .tup []), (93, .tup []), (92, .tup []), (91, .bool false), (90, .bool false), (89, .tup []), (88, .tup []), (87, .bool false), (87, .bool y160), (86, .bool y160), (85, .bool y160), (84, .agg [.bool y63.1.Neg_, lsv (encI .u8) 1 y63.1.D_, .int .i64 y63.1.E_]), (83, .bool true), (83, .bool y1), (82, .bool y1), (2, .bool false), (3, .ptr 0 0), (4, .ptr 1 0), (7, .bool y1), (8, .ptr 2 0), (10, .ptr 3 0), (12, .ptr 4 0), (13, .int .i64 y104.2), (14, .ptr 5 0), (15, .int .i64 y107.2), (16, .ptr 6 0), (17, .int .i64 y110.2)]) (H2 := [.box [.bool x0.A_.Neg_, lsv (encI .u8) 1 x0.A_.D_, .int .i64 x0.A_.E_], .box [.bool x0.B_.Neg_, lsv (encI .u8) 1 x0.B_.D_, .int .i64 x0.B_.E_], .box [.bool y63.1.Neg_, lsv (encI .u8) 1 y63.1.D_, .int .i64 y63.1.E_], .box [.bool y66.1.Neg_, lsv (encI .u8) 1 y66.1.D_, .int .i64 y66.1.E_], .box [.bool y104.1.Neg_, lsv (encI .u8) 1 y104.1.D_, .int .i64 y104.1.E_], .box [.bool y107.1.Neg_, lsv (encI .u8) 1 y107.1.D_, .int .i64 y107.1.E_], .box [.bool y110.1.Neg_, lsv (encI .u8) 1 y110.1.D_, .int .i64 y110.1.E_], .res, .res, .res, .res, .res, .res]) (by kernel_rfl) ?_
            refine RJ.end (by kernel_rfl) ?_
            obtain rfl := Option.some.inj h165
            refine PJ.wk (Wk.sel (L2 := [(2, .bool false)]) (H2 := []) 0 (by rw [hFH]; rfl) hFD [] (by kernel_rfl) (by kernel_rfl) (by decide) (by kernel_rfl) (by kernel_rfl) (by kernel_rfl) (by kernel_rfl)) ?_
            exact PJ.cutN [2] (by kernel_rfl) (by kernel_rfl)
        · have h159 := condF hb157 hy154
          refine RJ.segD 39 (tr2 := [([], []), ([], []), ([], []), ([], [14, 15]), ([], []), ([], []), ([], []), ([], []), ([], []), ([], []), ([], []), ([], []), ([], [16, 17]), ([], []), ([], []), ([], []), ([], []), ([], []), ([], []), ([], []), ([], []), ([], []), ([], [18, 19]), ([], []), ([], []), ([], []), ([], []), ([], [20, 21]), ([], []), ([], []), ([], [22, 23]), ([], []), ([], []), ([], []), ([], []), ([], []), ([], []), ([], []), ([], [24, 25]), ([], []), ([], [])]) (L2 := [(2, .bool false), (121, .bool false), (120, .tup []), (119, .tup []), (118, .tup []), (117, .tup []), (116, .tup []), (115, .bool false), (114, .bool false), (113, .tup []), (112, .tup []), (111, .tup []), (110, .tup []), (109, .tup []), (108, .tup []), (107, .tup []), (106, .bool false), (105, .bool false), (104, .tup []), (103, .tup []), (102, .tup []), (101, .bool false), (100, .bool false), (99, .tup []), (98, .tup []), (97, .tup []), (96, .bool false), (95, .bool false), (94, .tup []), (93, .tup []), (92, .tup []), (91, .bool false), (90, .bool false), (89, .tup []), (88, .tup []), (87, .bool false), (86, .bool false), (85, .tup []), (84, .tup []), (83, .bool false), (83, .bool y1), (82, .bool y1), (2, .bool false), (3, .ptr 0 0), (4, .ptr 1 0), (7, .bool y1), (8, .ptr 2 0), (10, .ptr 3 0), (12, .ptr 4 0), (13, .int .i64 y104.2), (14, .ptr 5 0), (15, .int .i64 y107.2), (16, .ptr 6 0), (17, .int .i64 y110.2)]) (H2 := [.box [.bool x0.A_.Neg_, lsv (encI .u8) 1 x0.A_.D_, .int .i64 x0.A_.E_], .box [.bool x0.B_.Neg_, lsv (encI .u8) 1 x0.B_.D_, .int .i64 x0.B_.E_], .box [.bool y63.1.Neg_, lsv (encI .u8) 1 y63.1.D_, .int .i64 y63.1.E_], .box [.bool y66.1.Neg_, lsv (encI .u8) 1 y66.1.D_, .int .i64 y66.1.E_], .box [.bool y104.1.Neg_, lsv (encI .u8) 1 y104.1.D_, .int .i64 y104.1.E_], .box [.bool y107.1.Neg_, lsv (encI .u8) 1 y107.1.D_, .int .i64 y107.1.E_], .box [.bool y110.1.Neg_, lsv (encI .u8) 1 y110.1.D_, .int .i64 y110.1.E_], .res, .res, .res, .res, .res, .res]) (by kernel_rfl) ?_
          refine RJ.end (by kernel_rfl) ?_
          obtain rfl := Option.some.inj h159
          refine PJ.wk (Wk.sel (L2 := [(2, .bool false)]) (H2 := []) 0 (by rw [hFH]; rfl) hFD [] (by kernel_rfl) (by kernel_rfl) (by decide) (by kernel_rfl) (by kernel_rfl) (by kernel_rfl) (by kernel_rfl)) ?_
          exact PJ.cutN [2] (by kernel_rfl) (by kernel_rfl)
      · refine K.ret (by kernel_rfl) ?_
        obtain rfl := Option.some.inj h156
        exact K.ret0 (.inr rfl) hFn hFH hFD (by kernel_rfl) (by kernel_rfl) (by kernel_rfl)

def exerguelaw05_DecFigures (x0 : St23) (x1 : Int) : Option (Bool) :=
  (Option.bind exerguelaw05_shown fun y1 => (Option.bind (exergueref05_Right x0) fun y4 => (bif (!y4) then (some y1) else (Option.bind (dec_Mag x0) fun y10 => (Option.bind (loopN (fun (s66 : Int) => (bif (decide (s66 < (x0.D_.length : Int))) then (Option.bind (dec_At x0 (IntKind.wrap .i64 (y10 - s66))) fun y102 => (bif inR s66 x0.D_.length then (bif (decide (¬ y102 = (nth x0.D_ s66))) then (some (.inr (.inr false))) else (some (.inl (IntKind.wrap .i64 (s66 + 1))))) else none)) else (some (.inr (.inl ()))))) big 0) (joinX fun (s61 : Unit) => (bif (decide ((IntKind.wrap .i64 x1) ≥ 0)) then (Option.bind (bif y1 then (Option.bind (dec_At x0 ((IntKind.wrap .i64 ((IntKind.wrap .i64 (y10 + 1)) + (IntKind.wrap .i64 x1))))) fun y131 => (some (decide (y131 = 0)))) else (some false)) fun (s123 : Bool) => (some s123)) else (Option.bind (bif y1 then (Option.bind (dec_At x0 ((IntKind.wrap .i64 ((minI x0.E_ y10) + (IntKind.wrap .i64 x1))))) fun y148 => (some (decide (y148 = 0)))) else (some false)) fun (s140 : Bool) => (some s140)))))))))
theorem exerguelaw05_DecFigures_ok {x0 : St23} {x1 : Int} {r : Bool} (h : exerguelaw05_DecFigures x0 x1 = some r) : SC Tryd.prog 7 [.agg [.bool x0.Neg_, lsv (encI .u8) 1 x0.D_, .int .i64 x0.E_], .int .i16 x1] [] (.bool r) [] := by
  refine K.fn (fn := Tryd.f7) (by kernel_rfl) (by kernel_rfl) (by kernel_rfl) (by kernel_rfl) (by kernel_rfl) (fun F hFn hFH hFD => ?_)
  unfold exerguelaw05_DecFigures at h
  refine K.seq (by kernel_rfl) ?_
  refine K.region (by kernel_rfl) ?_
  refine RJ.seg 2 [1, 2, 4] (L2 := [(1, .int .i16 x1), (2, .ptr 0 0), (4, .bool false)]) (H2 := [.box [.bool x0.Neg_, lsv (encI .u8) 1 x0.D_, .int .i64 x0.E_]]) (by kernel_rfl) ?_
  refine RJ.end (by kernel_rfl) ?_
  refine PJ.next ?_
  refine K.seq (by kernel_rfl) ?_
  refine K.region (by kernel_rfl) ?_
  obtain ⟨y1, hy2, h3⟩ := bindS h
  refine RJ.call0 (d := (some 9)) (f := 10) (args := []) (v := .bool y1) (tr2 := []) (by kernel_rfl) (by kernel_rfl) .nil (exerguelaw05_shown_ok hy2) (by kernel_rfl) ?_
  refine RJ.seg 1 [1, 2, 4, 5] (L2 := [(1, .int .i16 x1), (2, .ptr 0 0), (4, .bool false), (5, .bool y1)]) (H2 := [.box [.bool x0.Neg_, lsv (encI .u8) 1 x0.D_, .int .i64 x0.E_]]) (by kernel_rfl) ?_
  refine RJ.end (by kernel_rfl) ?_
  refine PJ.next ?_
  refine K.seq (by kernel_rfl) ?_
  refine K.seq (by kernel_rfl) ?_
  refine K.region (by kernel_rfl) ?_
  refine RJ.seg 1 [1, 2, 4, 5, 10] (L2 := [(1, .int .i16 x1), (2, .ptr 0 0), (4, .bool false), (5, .bool y1), (10, .agg [.bool x0.Neg_, lsv (encI .u8) 1 x0.D_, .int .i64 x0.E_])]) (H2 := [.box [.bool x0.Neg_, lsv (encI .u8) 1 x0.D_, .int .i64 x0.E_]]) (by kernel_rfl) ?_
  obtain ⟨y4, hy5, h6⟩ := bindS h3
  refine RJ.call0 (d := (some 11)) (f := 14) (args := [.agg [.bool x0.Neg_, lsv (encI .u8) 1 x0.D_, .int .i64 x0.E_]]) (v := .bool y4) (tr2 := []) (by kernel_rfl) (by kernel_rfl) (.cons (Le.refl _) .nil) (exergueref05_Right_ok hy5) (by kernel_rfl) ?_
  refine RJ.seg 1 [1, 2, 4, 5, 12] (L2 := [(1, .int .i16 x1), (2, .ptr 0 0), (4, .bool false), (5, .bool y1), (12, .bool (!y4))]) (H2 := [.box [.bool x0.Neg_, lsv (encI .u8) 1 x0.D_, .int .i64 x0.E_]]) (by kernel_rfl) ?_
  refine RJ.end (by kernel_rfl) ?_
  refine PJ.next ?_
  refine J.caseB 12 (b := (!y4)) (by kernel_rfl) (fun hb7 => ?_) (fun hb7 => ?_)
  · have h8 := condT hb7 h6
    refine K.condT (by kernel_rfl) ?_
    refine K.seq (by kernel_rfl) ?_
    refine K.region (by kernel_rfl) ?_
    refine RJ.seg 2 [1, 2, 4, 5] (L2 := [(1, .int .i16 x1), (2, .ptr 0 0), (4, .bool y1), (5, .bool y1)]) (H2 := [.box [.bool x0.Neg_, lsv (encI .u8) 1 x0.D_, .int .i64 x0.E_]]) (by kernel_rfl) ?_
    refine RJ.end (by kernel_rfl) ?_
    refine PJ.next ?_
    refine K.ret (by kernel_rfl) ?_
    refine PJ.passRet ?_
    obtain rfl := Option.some.inj h8
    exact K.ret0 (.inr rfl) hFn hFH hFD (by kernel_rfl) (by kernel_rfl) (by kernel_rfl)
  · have h9 := condF hb7 h6
    refine K.condF (by kernel_rfl) ?_
    refine K.skip (by kernel_rfl) ?_
    refine PJ.next ?_
    refine K.seq (by kernel_rfl) ?_
    refine K.region (by kernel_rfl) ?_
    refine RJ.seg 1 [1, 2, 4, 5, 14] (L2 := [(1, .int .i16 x1), (2, .ptr 0 0), (4, .bool false), (5, .bool y1), (14, .agg [.bool x0.Neg_, lsv (encI .u8) 1 x0.D_, .int .i64 x0.E_])]) (H2 := [.box [.bool x0.Neg_, lsv (encI .u8) 1 x0.D_, .int .i64 x0.E_]]) (by kernel_rfl) ?_
    obtain ⟨y10, hy11, h12⟩ := bindS h9
    refine RJ.call0 (d := (some 15)) (f := 20) (args := [.agg [.bool x0.Neg_, lsv (encI .u8) 1 x0.D_, .int .i64 x0.E_]]) (v := .int .i64 y10) (tr2 := []) (by kernel_rfl) (by kernel_rfl) (.cons (Le.refl _) .nil) (dec_Mag_ok hy11) (by kernel_rfl) ?_
    refine RJ.seg 1 [1, 2, 4, 5, 6] (L2 := [(1, .int .i16 x1), (2, .ptr 0 0), (4, .bool false), (5, .bool y1), (6, .int .i64 y10)]) (H2 := [.box [.bool x0.Neg_, lsv (encI .u8) 1 x0.D_, .int .i64 x0.E_]]) (by kernel_rfl) ?_
    refine RJ.end (by kernel_rfl) ?_
    refine PJ.next ?_
    obtain ⟨y62, hy63, h64⟩ := bindS h12
    refine K.cutX (by kernel_rfl) (fun (s61 : Unit) => ([(1, .int .i16 x1), (2, .ptr 0 0), (4, .bool false), (5, .bool y1), (6, .int .i64 y10)], [.box [.bool x0.Neg_, lsv (encI .u8) 1 x0.D_, .int .i64 x0.E_]])) y62 ?_ (fun s61 hs => ?_)
    · refine K.seq (by kernel_rfl) ?_
      refine K.region (by kernel_rfl) ?_
      refine RJ.seg 1 [1, 2, 4, 5, 6, 7] (L2 := [(1, .int .i16 x1), (2, .ptr 0 0), (4, .bool false), (5, .bool y1), (6, .int .i64 y10), (7, .int .i64 0)]) (H2 := [.box [.bool x0.Neg_, lsv (encI .u8) 1 x0.D_, .int .i64 x0.E_]]) (by kernel_rfl) ?_
      refine RJ.end (by kernel_rfl) ?_
      refine PJ.next ?_
      refine K.block 0 (by kernel_rfl) ?_
      refine K.loop (by kernel_rfl) (fun (s66 : Int) => ([(1, .int .i16 x1), (2, .ptr 0 0), (4, .bool false), (5, .bool y1), (6, .int .i64 y10), (7, .int .i64 s66)], [.box [.bool x0.Neg_, lsv (encI .u8) 1 x0.D_, .int .i64 x0.E_]])) hy63 [1, 2, 4, 5, 6, 7] (by kernel_rfl) (by kernel_rfl) (fun s66 x98 hs97 => ?_)
      refine K.seq (by kernel_rfl) ?_
      refine K.seq (by kernel_rfl) ?_
      refine K.region (by kernel_rfl) ?_
      refine RJ.seg 5 [1, 2, 4, 5, 6, 7, 20] (L2 := [(1, .int .i16 x1), (2, .ptr 0 0), (4, .bool false), (5, .bool y1), (6, .int .i64 y10), (7, .int .i64 s66), (20, .bool ((decide (s66 < (x0.D_.length : Int)))))]) (H2 := [.box [.bool x0.Neg_, lsv (encI .u8) 1 x0.D_, .int .i64 x0.E_]]) (by kernel_rfl) ?_
      refine RJ.end (by kernel_rfl) ?_
      refine PJ.next ?_
      refine J.caseB 20 (b := (decide (s66 < (x0.D_.length : Int)))) (by kernel_rfl) (fun hb99 => ?_) (fun hb99 => ?_)
      · have h100 := condT hb99 hs97
        refine K.condT (by kernel_rfl) ?_
        refine K.skip (by kernel_rfl) ?_
        refine PJ.next ?_
        refine K.seq (by kernel_rfl) ?_
        refine K.block 1 (by kernel_rfl) ?_
        refine K.seq (by kernel_rfl) ?_
        refine J.keep [1, 2, 4, 5, 6, 7] (L2 := [(1, .int .i16 x1), (2, .ptr 0 0), (4, .bool false), (5, .bool y1), (6, .int .i64 y10), (7, .int .i64 s66)]) (by kernel_rfl) ?_
        refine K.draw (by kernel_rfl) (by kernel_rfl) (by kernel_rfl) (H2 := [.box [.bool x0.Neg_, lsv (encI .u8) 1 x0.D_, .int .i64 x0.E_], .res]) (by kernel_rfl) (n := 1) (by kernel_rfl) ?_
        refine RJ.segD 4 (tr2 := [([0, 1], []), ([], []), ([], []), ([], [])]) (L2 := [(26, .int .i64 (IntKind.wrap .i64 (y10 - s66))), (25, .int .i64 s66), (24, .int .i64 y10), (23, .agg [.bool x0.Neg_, lsv (encI .u8) 1 x0.D_, .int .i64 x0.E_]), (1, .int .i16 x1), (2, .ptr 0 0), (4, .bool false), (5, .bool y1), (6, .int .i64 y10), (7, .int .i64 s66)]) (H2 := [.box [.bool x0.Neg_, lsv (encI .u8) 1 x0.D_, .int .i64 x0.E_], .res]) (by kernel_rfl) ?_
        obtain ⟨y102, hy103, h104⟩ := bindS h100
        refine RJ.call0 (d := (some 27)) (f := 21) (args := [.agg [.bool x0.Neg_, lsv (encI .u8) 1 x0.D_, .int .i64 x0.E_], .int .i64 (IntKind.wrap .i64 (y10 - s66))]) (v := .int .u8 y102) (tr2 := [([0, 1], []), ([], []), ([], []), ([], []), ([], [2, 3])]) (by kernel_rfl) (by kernel_rfl) (.cons (Le.refl _) (.cons (Le.refl _) .nil)) (dec_At_ok hy103) (by kernel_rfl) ?_
        refine RJ.segD 3 (tr2 := [([0, 1], []), ([], []), ([], []), ([], []), ([], [2, 3]), ([], []), ([0, 1], []), ([], [])]) (L2 := [(30, .int .i64 s66), (29, lsv (encI .u8) 1 x0.D_), (28, .ptr 0 1), (27, .int .u8 y102), (26, .int .i64 (IntKind.wrap .i64 (y10 - s66))), (25, .int .i64 s66), (24, .int .i64 y10), (23, .agg [.bool x0.Neg_, lsv (encI .u8) 1 x0.D_, .int .i64 x0.E_]), (1, .int .i16 x1), (2, .ptr 0 0), (4, .bool false), (5, .bool y1), (6, .int .i64 y10), (7, .int .i64 s66)]) (H2 := [.box [.bool x0.Neg_, lsv (encI .u8) 1 x0.D_, .int .i64 x0.E_], .res]) (by kernel_rfl) ?_
        obtain ⟨hm, h105⟩ := asrt h104
        refine RJ.rel (d := (some 31)) (ef := ⟨.ep (((x0.D_.flatMap (encI .u8)).drop ((s66 : Int).toNat * 1)).take 1), [], []⟩) (ef' := ⟨.ep ((encI .u8) (nth x0.D_ s66)), [], []⟩) (c := inR s66 x0.D_.length) (tr2 := [([0, 1], []), ([], []), ([], []), ([], []), ([], [2, 3]), ([], []), ([0, 1], []), ([], []), ([], [])]) (H2 := [.box [.bool x0.Neg_, lsv (encI .u8) 1 x0.D_, .int .i64 x0.E_], .res]) (by kernel_rfl) hm (fun hc => N.idx (encI_len .u8) hc) (by kernel_rfl) ?_
        refine RJ.segD 2 (tr2 := [([0, 1], []), ([], []), ([], []), ([], []), ([], [2, 3]), ([], []), ([0, 1], []), ([], []), ([], []), ([], []), ([], [])]) (L2 := [(33, .bool ((decide (¬ y102 = (nth x0.D_ s66))))), (32, .int .u8 (nth x0.D_ s66)), (31, .ep [.int .u8 (nth x0.D_ s66)]), (30, .int .i64 s66), (29, lsv (encI .u8) 1 x0.D_), (28, .ptr 0 1), (27, .int .u8 y102), (26, .int .i64 (IntKind.wrap .i64 (y10 - s66))), (25, .int .i64 s66), (24, .int .i64 y10), (23, .agg [.bool x0.Neg_, lsv (encI .u8) 1 x0.D_, .int .i64 x0.E_]), (1, .int .i16 x1), (2, .ptr 0 0), (4, .bool false), (5, .bool y1), (6, .int .i64 y10), (7, .int .i64 s66)]) (H2 := [.box [.bool x0.Neg_, lsv (encI .u8) 1 x0.D_, .int .i64 x0.E_], .res]) (by kernel_rfl) ?_
        refine RJ.end (by kernel_rfl) ?_
        refine PJ.next ?_
        refine J.caseB 33 (b := (decide (¬ y102 = (nth x0.D_ s66)))) (by kernel_rfl) (fun hb106 => ?_) (fun hb106 => ?_)
        · have h107 := condT hb106 h105
          refine K.condT (by kernel_rfl) ?_
          refine K.seq (by kernel_rfl) ?_
          refine K.region (by kernel_rfl) ?_
          refine RJ.seg 1 [1, 2, 4, 5, 6, 7] (L2 := [(1, .int .i16 x1), (2, .ptr 0 0), (4, .bool false), (5, .bool y1), (6, .int .i64 y10), (7, .int .i64 s66)]) (H2 := [.box [.bool x0.Neg_, lsv (encI .u8) 1 x0.D_, .int .i64 x0.E_], .res]) (by kernel_rfl) ?_
          refine RJ.end (by kernel_rfl) ?_
          refine PJ.next ?_
          refine K.ret (by kernel_rfl) ?_
          refine PJ.blockRet ?_
          refine PJ.passRet ?_
          obtain rfl := Option.some.inj h107
          refine PJ.loopOut (fun e => nomatch e) (fun he111 => ?_)
          have h109 := congrArg some he111
          refine PJ.blockRet ?_
          obtain rfl := Option.some.inj h109
          have h110 := joinX_inr h64
          refine PJ.cutXr (fun e => nomatch e) ?_
          obtain rfl := Option.some.inj h110
          exact K.ret0 (.inr rfl) hFn hFH hFD (by kernel_rfl) (by kernel_rfl) (by kernel_rfl)
        · have h108 := condF hb106 h105
          refine K.condF (by kernel_rfl) ?_
          refine K.skip (by kernel_rfl) ?_
          refine PJ.blockNormal ?_
          refine PJ.next ?_
          refine K.region (by kernel_rfl) ?_
          refine RJ.seg 3 [1, 2, 4, 5, 6, 7] (L2 := [(1, .int .i16 x1), (2, .ptr 0 0), (4, .bool false), (5, .bool y1), (6, .int .i64 y10), (7, .int .i64 (IntKind.wrap .i64 (s66 + 1)))]) (H2 := [.box [.bool x0.Neg_, lsv (encI .u8) 1 x0.D_, .int .i64 x0.E_], .res]) (by kernel_rfl) ?_
          refine RJ.end (by kernel_rfl) ?_
          obtain rfl := Option.some.inj h108
          refine PJ.wk (Wk.sel (L2 := [(1, .int .i16 x1), (2, .ptr 0 0), (4, .bool false), (5, .bool y1), (6, .int .i64 y10), (7, .int .i64 (IntKind.wrap .i64 (s66 + 1)))]) (H2 := [.box [.bool x0.Neg_, lsv (encI .u8) 1 x0.D_, .int .i64 x0.E_]]) 0 (by rw [hFH]; rfl) hFD [0] (by kernel_rfl) (by kernel_rfl) (by decide) (by kernel_rfl) (by kernel_rfl) (by kernel_rfl) (by kernel_rfl)) ?_
          exact PJ.loopNext [1, 2, 4, 5, 6, 7] (by kernel_rfl) (by kernel_rfl)
      · have h101 := condF hb99 hs97
        refine K.condF (by kernel_rfl) ?_
        refine K.exit 0 (by kernel_rfl) ?_
        refine PJ.passExit ?_
        obtain rfl := Option.some.inj h101
        refine PJ.loopOut (fun e => nomatch e) (fun he113 => ?_)
        have h112 := congrArg some he113
        refine PJ.blockOut ?_
        obtain rfl := Option.some.inj h112
        exact PJ.cutXl [1, 2, 4, 5, 6] (by kernel_rfl) (by kernel_rfl)
    · subst hs
      have h65 := joinX_inl h64
      refine K.seq (by kernel_rfl) ?_
      refine K.region (by kernel_rfl) ?_
      refine RJ.seg 3 [2, 4, 5, 6, 8] (L2 := [(2, .ptr 0 0), (4, .bool false), (5, .bool y1), (6, .int .i64 y10), (8, .int .i64 (IntKind.wrap .i64 x1))]) (H2 := [.box [.bool x0.Neg_, lsv (encI .u8) 1 x0.D_, .int .i64 x0.E_]]) (by kernel_rfl) ?_
      refine RJ.end (by kernel_rfl) ?_
      refine PJ.next ?_
      refine K.seq (by kernel_rfl) ?_
      refine K.seq (by kernel_rfl) ?_
      refine K.region (by kernel_rfl) ?_
      refine RJ.seg 2 [2, 4, 5, 6, 8, 37] (L2 := [(2, .ptr 0 0), (4, .bool false), (5, .bool y1), (6, .int .i64 y10), (8, .int .i64 (IntKind.wrap .i64 x1)), (37, .bool ((decide ((IntKind.wrap .i64 x1) ≥ 0))))]) (H2 := [.box [.bool x0.Neg_, lsv (encI .u8) 1 x0.D_, .int .i64 x0.E_]]) (by kernel_rfl) ?_
      refine RJ.end (by kernel_rfl) ?_
      refine PJ.next ?_
      refine J.caseB 37 (b := (decide ((IntKind.wrap .i64 x1) ≥ 0))) (by kernel_rfl) (fun hb114 => ?_) (fun hb114 => ?_)
      · have h115 := condT hb114 h65
        refine K.condT (by kernel_rfl) ?_
        obtain ⟨s123, hy125, h127⟩ := bindS h115
        refine K.cutN (by kernel_rfl) (fun (s123 : Bool) => ([(2, .ptr 0 0), (4, .bool s123), (5, .bool y1), (6, .int .i64 y10), (8, .int .i64 (IntKind.wrap .i64 x1))], [.box [.bool x0.Neg_, lsv (encI .u8) 1 x0.D_, .int .i64 x0.E_]])) s123 ?_ ?_
        · refine K.region (by kernel_rfl) ?_
          refine RJ.seg 2 [2, 4, 5, 6, 8, 39] (L2 := [(2, .ptr 0 0), (4, .bool false), (5, .bool y1), (6, .int .i64 y10), (8, .int .i64 (IntKind.wrap .i64 x1)), (39, .bool y1)]) (H2 := [.box [.bool x0.Neg_, lsv (encI .u8) 1 x0.D_, .int .i64 x0.E_]]) (by kernel_rfl) ?_
          refine RJ.caseB 39 (b := y1) (by kernel_rfl) (fun hb128 => ?_) (fun hb128 => ?_)
          · have h129 := condT hb128 hy125
            refine RJ.seg 5 [2, 4, 5, 6, 8, 39, 40, 44] (L2 := [(2, .ptr 0 0), (4, .bool false), (5, .bool y1), (6, .int .i64 y10), (8, .int .i64 (IntKind.wrap .i64 x1)), (39, .bool true), (40, .agg [.bool x0.Neg_, lsv (encI .u8) 1 x0.D_, .int .i64 x0.E_]), (44, .int .i64 ((IntKind.wrap .i64 ((IntKind.wrap .i64 (y10 + 1)) + (IntKind.wrap .i64 x1)))))]) (H2 := [.box [.bool x0.Neg_, lsv (encI .u8) 1 x0.D_, .int .i64 x0.E_]]) (by kernel_rfl) ?_
            obtain ⟨y131, hy132, h133⟩ := bindS h129
            refine RJ.call0 (d := (some 45)) (f := 21) (args := [.agg [.bool x0.Neg_, lsv (encI .u8) 1 x0.D_, .int .i64 x0.E_], .int .i64 ((IntKind.wrap .i64 ((IntKind.wrap .i64 (y10 + 1)) + (IntKind.wrap .i64 x1))))]) (v := .int .u8 y131) (tr2 := []) (by kernel_rfl) (by kernel_rfl) (.cons (Le.refl _) (.cons (Le.refl _) .nil)) (dec_At_ok hy132) (by kernel_rfl) ?_
            refine RJ.seg 3 [2, 4, 5, 6, 8] (L2 := [(2, .ptr 0 0), (4, .bool (decide (y131 = 0))), (5, .bool y1), (6, .int .i64 y10), (8, .int .i64 (IntKind.wrap .i64 x1))]) (H2 := [.box [.bool x0.Neg_, lsv (encI .u8) 1 x0.D_, .int .i64 x0.E_]]) (by kernel_rfl) ?_
            refine RJ.end (by kernel_rfl) ?_
            obtain rfl := Option.some.inj h133
            exact PJ.cutN [2, 4, 5, 6, 8] (by kernel_rfl) (by kernel_rfl)
          · have h130 := condF hb128 hy125
            refine RJ.seg 9 [2, 4, 5, 6, 8] (L2 := [(2, .ptr 0 0), (4, .bool false), (5, .bool y1), (6, .int .i64 y10), (8, .int .i64 (IntKind.wrap .i64 x1))]) (H2 := [.box [.bool x0.Neg_, lsv (encI .u8) 1 x0.D_, .int .i64 x0.E_]]) (by kernel_rfl) ?_
            refine RJ.end (by kernel_rfl) ?_
            obtain rfl := Option.some.inj h130
            exact PJ.cutN [2, 4, 5, 6, 8] (by kernel_rfl) (by kernel_rfl)
        · refine K.ret (by kernel_rfl) ?_
          refine PJ.passRet ?_
          obtain rfl := Option.some.inj h127
          exact K.ret0 (.inr rfl) hFn hFH hFD (by kernel_rfl) (by kernel_rfl) (by kernel_rfl)
      · have h116 := condF hb114 h65
        refine K.condF (by kernel_rfl) ?_
        refine K.skip (by kernel_rfl) ?_
        refine PJ.next ?_
        obtain ⟨s140, hy142, h144⟩ := bindS h116
        refine K.cutN (by kernel_rfl) (fun (s140 : Bool) => ([(4, .bool s140)], [])) s140 ?_ ?_
        · refine K.region (by kernel_rfl) ?_
          refine RJ.seg 2 [2, 4, 6, 8, 49] (L2 := [(2, .ptr 0 0), (4, .bool false), (6, .int .i64 y10), (8, .int .i64 (IntKind.wrap .i64 x1)), (49, .bool y1)]) (H2 := [.box [.bool x0.Neg_, lsv (encI .u8) 1 x0.D_, .int .i64 x0.E_]]) (by kernel_rfl) ?_
          refine RJ.caseB 49 (b := y1) (by kernel_rfl) (fun hb145 => ?_) (fun hb145 => ?_)
          · have h146 := condT hb145 hy142
            refine RJ.seg 7 [4, 49, 50, 56] (L2 := [(4, .bool false), (49, .bool true), (50, .agg [.bool x0.Neg_, lsv (encI .u8) 1 x0.D_, .int .i64 x0.E_]), (56, .int .i64 ((IntKind.wrap .i64 ((minI x0.E_ y10) + (IntKind.wrap .i64 x1)))))]) (H2 := [.box [.bool x0.Neg_, lsv (encI .u8) 1 x0.D_, .int .i64 x0.E_]]) (by kernel_rfl) ?_
            obtain ⟨y148, hy149, h150⟩ := bindS h146
            refine RJ.call0 (d := (some 57)) (f := 21) (args := [.agg [.bool x0.Neg_, lsv (encI .u8) 1 x0.D_, .int .i64 x0.E_], .int .i64 ((IntKind.wrap .i64 ((minI x0.E_ y10) + (IntKind.wrap .i64 x1))))]) (v := .int .u8 y148) (tr2 := []) (by kernel_rfl) (by kernel_rfl) (.cons (Le.refl _) (.cons (Le.refl _) .nil)) (dec_At_ok hy149) (by kernel_rfl) ?_
            refine RJ.seg 3 [4] (L2 := [(4, .bool (decide (y148 = 0)))]) (H2 := [.box [.bool x0.Neg_, lsv (encI .u8) 1 x0.D_, .int .i64 x0.E_]]) (by kernel_rfl) ?_
            refine RJ.end (by kernel_rfl) ?_
            obtain rfl := Option.some.inj h150
            refine PJ.wk (Wk.sel (L2 := [(4, .bool (decide (y148 = 0)))]) (H2 := []) 0 (by rw [hFH]; rfl) hFD [] (by kernel_rfl) (by kernel_rfl) (by decide) (by kernel_rfl) (by kernel_rfl) (by kernel_rfl) (by kernel_rfl)) ?_
            exact PJ.cutN [4] (by kernel_rfl) (by kernel_rfl)
          · have h147 := condF hb145 hy142
            refine RJ.seg 11 [4] (L2 := [(4, .bool false)]) (H2 := [.box [.bool x0.Neg_, lsv (encI .u8) 1 x0.D_, .int .i64 x0.E_]]) (by kernel_rfl) ?_
            refine RJ.end (by kernel_rfl) ?_
            obtain rfl := Option.some.inj h147
            refine PJ.wk (Wk.sel (L2 := [(4, .bool false)]) (H2 := []) 0 (by rw [hFH]; rfl) hFD [] (by kernel_rfl) (by kernel_rfl) (by decide) (by kernel_rfl) (by kernel_rfl) (by kernel_rfl) (by kernel_rfl)) ?_
            exact PJ.cutN [4] (by kernel_rfl) (by kernel_rfl)
        · refine K.ret (by kernel_rfl) ?_
          obtain rfl := Option.some.inj h144
          exact K.ret0 (.inr rfl) hFn hFH hFD (by kernel_rfl) (by kernel_rfl) (by kernel_rfl)

def exerguelaw05_DecSides (x0 : St23) (x1 : St23) : Option (Bool) :=
  (Option.bind exerguelaw05_shown fun y1 => (Option.bind (Option.bind (Option.bind (exergueref05_Right x0) fun y50 => (bif (!y50) then (some true) else (Option.bind (exergueref05_Right x1) fun y56 => (some (!y56))))) fun (s45 : Bool) => (bif s45 then (some (.inr y1)) else (some (.inl ())))) (joinX fun (s31 : Unit) => (Option.bind (dec_Cmp x0 (⟨false, ([] : List Int), 0⟩ : St23)) fun y63 => (Option.bind (bif (decide ((x0.D_.length : Int) > 0)) then (bif x0.Neg_ then (some (-1)) else (some 1)) else (some 0)) fun (s72 : Int) => (Option.bind (bif y1 then (Option.bind (dec_Cmp (⟨(!x0.Neg_), x0.D_, x0.E_⟩ : St23) (⟨(!x1.Neg_), x1.D_, x1.E_⟩ : St23)) fun y109 => (Option.bind (dec_Cmp x0 x1) fun y112 => (bif (decide (y109 = (IntKind.wrap .i64 (0 - y112)))) then (bif (decide (y63 = s72)) then (Option.bind (exergueref01_Row x0.D_ x0.D_) fun y121 => (some y121)) else (some false)) else (some false)))) else (some false)) fun (s101 : Bool) => (some s101)))))))
theorem exerguelaw05_DecSides_ok {x0 : St23} {x1 : St23} {r : Bool} (h : exerguelaw05_DecSides x0 x1 = some r) : SC Tryd.prog 9 [.agg [.bool x0.Neg_, lsv (encI .u8) 1 x0.D_, .int .i64 x0.E_], .agg [.bool x1.Neg_, lsv (encI .u8) 1 x1.D_, .int .i64 x1.E_]] [] (.bool r) [] := by
  refine K.fn (fn := Tryd.f9) (by kernel_rfl) (by kernel_rfl) (by kernel_rfl) (by kernel_rfl) (by kernel_rfl) (fun F hFn hFH hFD => ?_)
  unfold exerguelaw05_DecSides at h
  refine K.seq (by kernel_rfl) ?_
  refine K.region (by kernel_rfl) ?_
  refine RJ.seg 3 [2, 3, 4] (L2 := [(2, .ptr 0 0), (3, .ptr 1 0), (4, .bool false)]) (H2 := [.box [.bool x0.Neg_, lsv (encI .u8) 1 x0.D_, .int .i64 x0.E_], .box [.bool x1.Neg_, lsv (encI .u8) 1 x1.D_, .int .i64 x1.E_]]) (by kernel_rfl) ?_
  refine RJ.end (by kernel_rfl) ?_
  refine PJ.next ?_
  refine K.seq (by kernel_rfl) ?_
  refine K.region (by kernel_rfl) ?_
  obtain ⟨y1, hy2, h3⟩ := bindS h
  refine RJ.call0 (d := (some 10)) (f := 10) (args := []) (v := .bool y1) (tr2 := []) (by kernel_rfl) (by kernel_rfl) .nil (exerguelaw05_shown_ok hy2) (by kernel_rfl) ?_
  refine RJ.seg 1 [2, 3, 4, 5] (L2 := [(2, .ptr 0 0), (3, .ptr 1 0), (4, .bool false), (5, .bool y1)]) (H2 := [.box [.bool x0.Neg_, lsv (encI .u8) 1 x0.D_, .int .i64 x0.E_], .box [.bool x1.Neg_, lsv (encI .u8) 1 x1.D_, .int .i64 x1.E_]]) (by kernel_rfl) ?_
  refine RJ.end (by kernel_rfl) ?_
  refine PJ.next ?_
  obtain ⟨y32, hy33, h34⟩ := bindS h3
  refine K.cutX (by kernel_rfl) (fun (s31 : Unit) => ([(2, .ptr 0 0), (3, .ptr 1 0), (4, .bool false), (5, .bool y1)], [.box [.bool x0.Neg_, lsv (encI .u8) 1 x0.D_, .int .i64 x0.E_], .box [.bool x1.Neg_, lsv (encI .u8) 1 x1.D_, .int .i64 x1.E_]])) y32 ?_ (fun s31 hs => ?_)
  · obtain ⟨s45, hy47, h49⟩ := bindS hy33
    refine K.cutN (by kernel_rfl) (fun (s45 : Bool) => ([(2, .ptr 0 0), (3, .ptr 1 0), (4, .bool false), (5, .bool y1), (18, .bool s45)], [.box [.bool x0.Neg_, lsv (encI .u8) 1 x0.D_, .int .i64 x0.E_], .box [.bool x1.Neg_, lsv (encI .u8) 1 x1.D_, .int .i64 x1.E_]])) s45 ?_ ?_
    · refine K.region (by kernel_rfl) ?_
      refine RJ.seg 1 [2, 3, 4, 5, 11] (L2 := [(2, .ptr 0 0), (3, .ptr 1 0), (4, .bool false), (5, .bool y1), (11, .agg [.bool x0.Neg_, lsv (encI .u8) 1 x0.D_, .int .i64 x0.E_])]) (H2 := [.box [.bool x0.Neg_, lsv (encI .u8) 1 x0.D_, .int .i64 x0.E_], .box [.bool x1.Neg_, lsv (encI .u8) 1 x1.D_, .int .i64 x1.E_]]) (by kernel_rfl) ?_
      obtain ⟨y50, hy51, h52⟩ := bindS hy47
      refine RJ.call0 (d := (some 12)) (f := 14) (args := [.agg [.bool x0.Neg_, lsv (encI .u8) 1 x0.D_, .int .i64 x0.E_]]) (v := .bool y50) (tr2 := []) (by kernel_rfl) (by kernel_rfl) (.cons (Le.refl _) .nil) (exergueref05_Right_ok hy51) (by kernel_rfl) ?_
      refine RJ.seg 2 [2, 3, 4, 5, 14] (L2 := [(2, .ptr 0 0), (3, .ptr 1 0), (4, .bool false), (5, .bool y1), (14, .bool (!y50))]) (H2 := [.box [.bool x0.Neg_, lsv (encI .u8) 1 x0.D_, .int .i64 x0.E_], .box [.bool x1.Neg_, lsv (encI .u8) 1 x1.D_, .int .i64 x1.E_]]) (by kernel_rfl) ?_
      refine RJ.caseB 14 (b := (!y50)) (by kernel_rfl) (fun hb53 => ?_) (fun hb53 => ?_)
      · have h54 := condT hb53 h52
        refine RJ.seg 4 [2, 3, 4, 5, 18] (L2 := [(2, .ptr 0 0), (3, .ptr 1 0), (4, .bool false), (5, .bool y1), (18, .bool true)]) (H2 := [.box [.bool x0.Neg_, lsv (encI .u8) 1 x0.D_, .int .i64 x0.E_], .box [.bool x1.Neg_, lsv (encI .u8) 1 x1.D_, .int .i64 x1.E_]]) (by kernel_rfl) ?_
        refine RJ.end (by kernel_rfl) ?_
        obtain rfl := Option.some.inj h54
        exact PJ.cutN [2, 3, 4, 5, 18] (by kernel_rfl) (by kernel_rfl)
      · have h55 := condF hb53 h52
        refine RJ.seg 1 [2, 3, 4, 5, 14, 15] (L2 := [(2, .ptr 0 0), (3, .ptr 1 0), (4, .bool false), (5, .bool y1), (14, .bool false), (15, .agg [.bool x1.Neg_, lsv (encI .u8) 1 x1.D_, .int .i64 x1.E_])]) (H2 := [.box [.bool x0.Neg_, lsv (encI .u8) 1 x0.D_, .int .i64 x0.E_], .box [.bool x1.Neg_, lsv (encI .u8) 1 x1.D_, .int .i64 x1.E_]]) (by kernel_rfl) ?_
        obtain ⟨y56, hy57, h58⟩ := bindS h55
        refine RJ.call0 (d := (some 16)) (f := 14) (args := [.agg [.bool x1.Neg_, lsv (encI .u8) 1 x1.D_, .int .i64 x1.E_]]) (v := .bool y56) (tr2 := []) (by kernel_rfl) (by kernel_rfl) (.cons (Le.refl _) .nil) (exergueref05_Right_ok hy57) (by kernel_rfl) ?_
        refine RJ.seg 2 [2, 3, 4, 5, 18] (L2 := [(2, .ptr 0 0), (3, .ptr 1 0), (4, .bool false), (5, .bool y1), (18, .bool (!y56))]) (H2 := [.box [.bool x0.Neg_, lsv (encI .u8) 1 x0.D_, .int .i64 x0.E_], .box [.bool x1.Neg_, lsv (encI .u8) 1 x1.D_, .int .i64 x1.E_]]) (by kernel_rfl) ?_
        refine RJ.end (by kernel_rfl) ?_
        obtain rfl := Option.some.inj h58
        exact PJ.cutN [2, 3, 4, 5, 18] (by kernel_rfl) (by kernel_rfl)
    · refine J.caseB 18 (b := s45) (by kernel_rfl) (fun hb59 => ?_) (fun hb59 => ?_)
      · have h60 := condT hb59 h49
        refine K.condT (by kernel_rfl) ?_
        refine K.seq (by kernel_rfl) ?_
        refine K.region (by kernel_rfl) ?_
        refine RJ.seg 2 [2, 3, 4, 5] (L2 := [(2, .ptr 0 0), (3, .ptr 1 0), (4, .bool y1), (5, .bool y1)]) (H2 := [.box [.bool x0.Neg_, lsv (encI .u8) 1 x0.D_, .int .i64 x0.E_], .box [.bool x1.Neg_, lsv (encI .u8) 1 x1.D_, .int .i64 x1.E_]]) (by kernel_rfl) ?_
        refine RJ.end (by kernel_rfl) ?_
        refine PJ.next ?_
        refine K.ret (by kernel_rfl) ?_
        obtain rfl := Option.some.inj h60
        have h62 := joinX_inr h34
        refine PJ.cutXr (fun e => nomatch e) ?_
        obtain rfl := Option.some.inj h62
        exact K.ret0 (.inr rfl) hFn hFH hFD (by kernel_rfl) (by kernel_rfl) (by kernel_rfl)
      · have h61 := condF hb59 h49
        refine K.condF (by kernel_rfl) ?_
        refine K.skip (by kernel_rfl) ?_
        obtain rfl := Option.some.inj h61
        exact PJ.cutXl [2, 3, 4, 5] (by kernel_rfl) (by kernel_rfl)
  · subst hs
    have h35 := joinX_inl h34
    refine K.seq (by kernel_rfl) ?_
    refine K.region (by kernel_rfl) ?_
    refine RJ.seg 3 [2, 3, 4, 5, 6] (L2 := [(2, .ptr 0 0), (3, .ptr 1 0), (4, .bool false), (5, .bool y1), (6, .ptr 2 0)]) (H2 := [.box [.bool x0.Neg_, lsv (encI .u8) 1 x0.D_, .int .i64 x0.E_], .box [.bool x1.Neg_, lsv (encI .u8) 1 x1.D_, .int .i64 x1.E_], .box [.bool x0.Neg_, lsv (encI .u8) 1 x0.D_, .int .i64 x0.E_]]) (by kernel_rfl) ?_
    refine RJ.end (by kernel_rfl) ?_
    refine PJ.next ?_
    refine K.seq (by kernel_rfl) ?_
    refine K.region (by kernel_rfl) ?_
    refine RJ.seg 5 [2, 3, 4, 5, 6] (L2 := [(2, .ptr 0 0), (3, .ptr 1 0), (4, .bool false), (5, .bool y1), (6, .ptr 2 0)]) (H2 := [.box [.bool x0.Neg_, lsv (encI .u8) 1 x0.D_, .int .i64 x0.E_], .box [.bool x1.Neg_, lsv (encI .u8) 1 x1.D_, .int .i64 x1.E_], .box [.bool (!x0.Neg_), lsv (encI .u8) 1 x0.D_, .int .i64 x0.E_]]) (by kernel_rfl) ?_
    refine RJ.end (by kernel_rfl) ?_
    refine PJ.next ?_
    refine K.seq (by kernel_rfl) ?_
    refine K.region (by kernel_rfl) ?_
    refine RJ.seg 3 [2, 3, 4, 5, 6, 7] (L2 := [(2, .ptr 0 0), (3, .ptr 1 0), (4, .bool false), (5, .bool y1), (6, .ptr 2 0), (7, .ptr 3 0)]) (H2 := [.box [.bool x0.Neg_, lsv (encI .u8) 1 x0.D_, .int .i64 x0.E_], .box [.bool x1.Neg_, lsv (encI .u8) 1 x1.D_, .int .i64 x1.E_], .box [.bool (!x0.Neg_), lsv (encI .u8) 1 x0.D_, .int .i64 x0.E_], .box [.bool x1.Neg_, lsv (encI .u8) 1 x1.D_, .int .i64 x1.E_]]) (by kernel_rfl) ?_
    refine RJ.end (by kernel_rfl) ?_
    refine PJ.next ?_
    refine K.seq (by kernel_rfl) ?_
    refine K.region (by kernel_rfl) ?_
    refine RJ.seg 5 [2, 3, 4, 5, 6, 7] (L2 := [(2, .ptr 0 0), (3, .ptr 1 0), (4, .bool false), (5, .bool y1), (6, .ptr 2 0), (7, .ptr 3 0)]) (H2 := [.box [.bool x0.Neg_, lsv (encI .u8) 1 x0.D_, .int .i64 x0.E_], .box [.bool x1.Neg_, lsv (encI .u8) 1 x1.D_, .int .i64 x1.E_], .box [.bool (!x0.Neg_), lsv (encI .u8) 1 x0.D_, .int .i64 x0.E_], .box [.bool (!x1.Neg_), lsv (encI .u8) 1 x1.D_, .int .i64 x1.E_]]) (by kernel_rfl) ?_
    refine RJ.end (by kernel_rfl) ?_
    refine PJ.next ?_
    refine K.seq (by kernel_rfl) ?_
    refine K.region (by kernel_rfl) ?_
    refine RJ.seg 2 [2, 3, 4, 5, 6, 7, 30, 31] (L2 := [(2, .ptr 0 0), (3, .ptr 1 0), (4, .bool false), (5, .bool y1), (6, .ptr 2 0), (7, .ptr 3 0), (30, .agg [.bool x0.Neg_, lsv (encI .u8) 1 x0.D_, .int .i64 x0.E_]), (31, .agg [.bool false, .nl, .int .i64 0])]) (H2 := [.box [.bool x0.Neg_, lsv (encI .u8) 1 x0.D_, .int .i64 x0.E_], .box [.bool x1.Neg_, lsv (encI .u8) 1 x1.D_, .int .i64 x1.E_], .box [.bool (!x0.Neg_), lsv (encI .u8) 1 x0.D_, .int .i64 x0.E_], .box [.bool (!x1.Neg_), lsv (encI .u8) 1 x1.D_, .int .i64 x1.E_]]) (by kernel_rfl) ?_
    obtain ⟨y63, hy64, h65⟩ := bindS h35
    refine RJ.call0 (d := (some 32)) (f := 17) (args := [.agg [.bool x0.Neg_, lsv (encI .u8) 1 x0.D_, .int .i64 x0.E_], .agg [.bool false, .nl, .int .i64 0]]) (v := .int .i64 y63) (tr2 := []) (by kernel_rfl) (by kernel_rfl) (.cons (Le.refl _) (.cons (Le.agg (.cons (Le.refl _) (.cons (Le.nl _) (.cons (Le.refl _) .nil)))) .nil)) (dec_Cmp_ok hy64) (by kernel_rfl) ?_
    refine RJ.seg 1 [2, 3, 4, 5, 6, 7, 8] (L2 := [(2, .ptr 0 0), (3, .ptr 1 0), (4, .bool false), (5, .bool y1), (6, .ptr 2 0), (7, .ptr 3 0), (8, .int .i64 y63)]) (H2 := [.box [.bool x0.Neg_, lsv (encI .u8) 1 x0.D_, .int .i64 x0.E_], .box [.bool x1.Neg_, lsv (encI .u8) 1 x1.D_, .int .i64 x1.E_], .box [.bool (!x0.Neg_), lsv (encI .u8) 1 x0.D_, .int .i64 x0.E_], .box [.bool (!x1.Neg_), lsv (encI .u8) 1 x1.D_, .int .i64 x1.E_]]) (by kernel_rfl) ?_
    refine RJ.end (by kernel_rfl) ?_
    refine PJ.next ?_
    refine K.seq (by kernel_rfl) ?_
    refine K.region (by kernel_rfl) ?_
    refine RJ.seg 1 [2, 3, 4, 5, 6, 7, 8, 9] (L2 := [(2, .ptr 0 0), (3, .ptr 1 0), (4, .bool false), (5, .bool y1), (6, .ptr 2 0), (7, .ptr 3 0), (8, .int .i64 y63), (9, .int .i64 0)]) (H2 := [.box [.bool x0.Neg_, lsv (encI .u8) 1 x0.D_, .int .i64 x0.E_], .box [.bool x1.Neg_, lsv (encI .u8) 1 x1.D_, .int .i64 x1.E_], .box [.bool (!x0.Neg_), lsv (encI .u8) 1 x0.D_, .int .i64 x0.E_], .box [.bool (!x1.Neg_), lsv (encI .u8) 1 x1.D_, .int .i64 x1.E_]]) (by kernel_rfl) ?_
    refine RJ.end (by kernel_rfl) ?_
    refine PJ.next ?_
    obtain ⟨s72, hy74, h76⟩ := bindS h65
    refine K.cutN (by kernel_rfl) (fun (s72 : Int) => ([(2, .ptr 0 0), (3, .ptr 1 0), (4, .bool false), (5, .bool y1), (6, .ptr 2 0), (7, .ptr 3 0), (8, .int .i64 y63), (9, .int .i64 s72)], [.box [.bool x0.Neg_, lsv (encI .u8) 1 x0.D_, .int .i64 x0.E_], .box [.bool x1.Neg_, lsv (encI .u8) 1 x1.D_, .int .i64 x1.E_], .box [.bool (!x0.Neg_), lsv (encI .u8) 1 x0.D_, .int .i64 x0.E_], .box [.bool (!x1.Neg_), lsv (encI .u8) 1 x1.D_, .int .i64 x1.E_]])) s72 ?_ ?_
    · refine K.seq (by kernel_rfl) ?_
      refine K.region (by kernel_rfl) ?_
      refine RJ.seg 4 [2, 3, 4, 5, 6, 7, 8, 9, 36] (L2 := [(2, .ptr 0 0), (3, .ptr 1 0), (4, .bool false), (5, .bool y1), (6, .ptr 2 0), (7, .ptr 3 0), (8, .int .i64 y63), (9, .int .i64 0), (36, .bool ((decide ((x0.D_.length : Int) > 0))))]) (H2 := [.box [.bool x0.Neg_, lsv (encI .u8) 1 x0.D_, .int .i64 x0.E_], .box [.bool x1.Neg_, lsv (encI .u8) 1 x1.D_, .int .i64 x1.E_], .box [.bool (!x0.Neg_), lsv (encI .u8) 1 x0.D_, .int .i64 x0.E_], .box [.bool (!x1.Neg_), lsv (encI .u8) 1 x1.D_, .int .i64 x1.E_]]) (by kernel_rfl) ?_
      refine RJ.end (by kernel_rfl) ?_
      refine PJ.next ?_
      refine J.caseB 36 (b := (decide ((x0.D_.length : Int) > 0))) (by kernel_rfl) (fun hb77 => ?_) (fun hb77 => ?_)
      · have h78 := condT hb77 hy74
        refine K.condT (by kernel_rfl) ?_
        refine K.seq (by kernel_rfl) ?_
        refine K.region (by kernel_rfl) ?_
        refine RJ.seg 1 [2, 3, 4, 5, 6, 7, 8, 9] (L2 := [(2, .ptr 0 0), (3, .ptr 1 0), (4, .bool false), (5, .bool y1), (6, .ptr 2 0), (7, .ptr 3 0), (8, .int .i64 y63), (9, .int .i64 1)]) (H2 := [.box [.bool x0.Neg_, lsv (encI .u8) 1 x0.D_, .int .i64 x0.E_], .box [.bool x1.Neg_, lsv (encI .u8) 1 x1.D_, .int .i64 x1.E_], .box [.bool (!x0.Neg_), lsv (encI .u8) 1 x0.D_, .int .i64 x0.E_], .box [.bool (!x1.Neg_), lsv (encI .u8) 1 x1.D_, .int .i64 x1.E_]]) (by kernel_rfl) ?_
        refine RJ.end (by kernel_rfl) ?_
        refine PJ.next ?_
        refine K.seq (by kernel_rfl) ?_
        refine K.region (by kernel_rfl) ?_
        refine RJ.seg 2 [2, 3, 4, 5, 6, 7, 8, 9, 38] (L2 := [(2, .ptr 0 0), (3, .ptr 1 0), (4, .bool false), (5, .bool y1), (6, .ptr 2 0), (7, .ptr 3 0), (8, .int .i64 y63), (9, .int .i64 1), (38, .bool x0.Neg_)]) (H2 := [.box [.bool x0.Neg_, lsv (encI .u8) 1 x0.D_, .int .i64 x0.E_], .box [.bool x1.Neg_, lsv (encI .u8) 1 x1.D_, .int .i64 x1.E_], .box [.bool (!x0.Neg_), lsv (encI .u8) 1 x0.D_, .int .i64 x0.E_], .box [.bool (!x1.Neg_), lsv (encI .u8) 1 x1.D_, .int .i64 x1.E_]]) (by kernel_rfl) ?_
        refine RJ.end (by kernel_rfl) ?_
        refine PJ.next ?_
        refine J.caseB 38 (b := x0.Neg_) (by kernel_rfl) (fun hb80 => ?_) (fun hb80 => ?_)
        · have h81 := condT hb80 h78
          refine K.condT (by kernel_rfl) ?_
          refine K.region (by kernel_rfl) ?_
          refine RJ.seg 1 [2, 3, 4, 5, 6, 7, 8, 9] (L2 := [(2, .ptr 0 0), (3, .ptr 1 0), (4, .bool false), (5, .bool y1), (6, .ptr 2 0), (7, .ptr 3 0), (8, .int .i64 y63), (9, .int .i64 (-1))]) (H2 := [.box [.bool x0.Neg_, lsv (encI .u8) 1 x0.D_, .int .i64 x0.E_], .box [.bool x1.Neg_, lsv (encI .u8) 1 x1.D_, .int .i64 x1.E_], .box [.bool (!x0.Neg_), lsv (encI .u8) 1 x0.D_, .int .i64 x0.E_], .box [.bool (!x1.Neg_), lsv (encI .u8) 1 x1.D_, .int .i64 x1.E_]]) (by kernel_rfl) ?_
          refine RJ.end (by kernel_rfl) ?_
          obtain rfl := Option.some.inj h81
          exact PJ.cutN [2, 3, 4, 5, 6, 7, 8, 9] (by kernel_rfl) (by kernel_rfl)
        · have h82 := condF hb80 h78
          refine K.condF (by kernel_rfl) ?_
          refine K.skip (by kernel_rfl) ?_
          obtain rfl := Option.some.inj h82
          exact PJ.cutN [2, 3, 4, 5, 6, 7, 8, 9] (by kernel_rfl) (by kernel_rfl)
      · have h79 := condF hb77 hy74
        refine K.condF (by kernel_rfl) ?_
        refine K.skip (by kernel_rfl) ?_
        obtain rfl := Option.some.inj h79
        exact PJ.cutN [2, 3, 4, 5, 6, 7, 8, 9] (by kernel_rfl) (by kernel_rfl)
    · obtain ⟨s101, hy103, h105⟩ := bindS h76
      refine K.cutN (by kernel_rfl) (fun (s101 : Bool) => ([(4, .bool s101)], [])) s101 ?_ ?_
      · refine J.keep [2, 3, 4, 5, 6, 7, 8, 9] (L2 := [(2, .ptr 0 0), (3, .ptr 1 0), (4, .bool false), (5, .bool y1), (6, .ptr 2 0), (7, .ptr 3 0), (8, .int .i64 y63), (9, .int .i64 s72)]) (by kernel_rfl) ?_
        refine K.draw (by kernel_rfl) (by kernel_rfl) (by kernel_rfl) (H2 := [.box [.bool x0.Neg_, lsv (encI .u8) 1 x0.D_, .int .i64 x0.E_], .box [.bool x1.Neg_, lsv (encI .u8) 1 x1.D_, .int .i64 x1.E_], .box [.bool (!x0.Neg_), lsv (encI .u8) 1 x0.D_, .int .i64 x0.E_], .box [.bool (!x1.Neg_), lsv (encI .u8) 1 x1.D_, .int .i64 x1.E_], .res, .res, .res]) (by kernel_rfl) (n := 4) (by kernel_rfl) ?_
        refine RJ.segD 2 (tr2 := [([], []), ([], [])]) (L2 := [(40, .bool y1), (39, .bool y1), (2, .ptr 0 0), (3, .ptr 1 0), (4, .bool false), (5, .bool y1), (6, .ptr 2 0), (7, .ptr 3 0), (8, .int .i64 y63), (9, .int .i64 s72)]) (H2 := [.box [.bool x0.Neg_, lsv (encI .u8) 1 x0.D_, .int .i64 x0.E_], .box [.bool x1.Neg_, lsv (encI .u8) 1 x1.D_, .int .i64 x1.E_], .box [.bool (!x0.Neg_), lsv (encI .u8) 1 x0.D_, .int .i64 x0.E_], .box [.bool (!x1.Neg_), lsv (encI .u8) 1 x1.D_, .int .i64 x1.E_], .res, .res, .res]) (by kernel_rfl) ?_
        refine RJ.caseB 40 (b := y1) (by kernel_rfl) (fun hb106 => ?_) (fun hb106 => ?_)
        · have h107 := condT hb106 hy103
          refine RJ.segD 2 (tr2 := [([], []), ([], []), ([4, 5], []), ([6, 7], [])]) (L2 := [(42, .agg [.bool (!x1.Neg_), lsv (encI .u8) 1 x1.D_, .int .i64 x1.E_]), (41, .agg [.bool (!x0.Neg_), lsv (encI .u8) 1 x0.D_, .int .i64 x0.E_]), (40, .bool true), (40, .bool y1), (39, .bool y1), (2, .ptr 0 0), (3, .ptr 1 0), (4, .bool false), (5, .bool y1), (6, .ptr 2 0), (7, .ptr 3 0), (8, .int .i64 y63), (9, .int .i64 s72)]) (H2 := [.box [.bool x0.Neg_, lsv (encI .u8) 1 x0.D_, .int .i64 x0.E_], .box [.bool x1.Neg_, lsv (encI .u8) 1 x1.D_, .int .i64 x1.E_], .box [.bool (!x0.Neg_), lsv (encI .u8) 1 x0.D_, .int .i64 x0.E_], .box [.bool (!x1.Neg_), lsv (encI .u8) 1 x1.D_, .int .i64 x1.E_], .res, .res, .res]) (by kernel_rfl) ?_
          obtain ⟨y109, hy110, h111⟩ := bindS h107
          refine RJ.call0 (d := (some 43)) (f := 17) (args := [.agg [.bool (!x0.Neg_), lsv (encI .u8) 1 x0.D_, .int .i64 x0.E_], .agg [.bool (!x1.Neg_), lsv (encI .u8) 1 x1.D_, .int .i64 x1.E_]]) (v := .int .i64 y109) (tr2 := [([], []), ([], []), ([4, 5], []), ([6, 7], []), ([], [8, 9])]) (by kernel_rfl) (by kernel_rfl) (.cons (Le.refl _) (.cons (Le.refl _) .nil)) (dec_Cmp_ok hy110) (by kernel_rfl) ?_
          refine RJ.segD 2 (tr2 := [([], []), ([], []), ([4, 5], []), ([6, 7], []), ([], [8, 9]), ([0, 1], []), ([2, 3], [])]) (L2 := [(45, .agg [.bool x1.Neg_, lsv (encI .u8) 1 x1.D_, .int .i64 x1.E_]), (44, .agg [.bool x0.Neg_, lsv (encI .u8) 1 x0.D_, .int .i64 x0.E_]), (43, .int .i64 y109), (42, .agg [.bool (!x1.Neg_), lsv (encI .u8) 1 x1.D_, .int .i64 x1.E_]), (41, .agg [.bool (!x0.Neg_), lsv (encI .u8) 1 x0.D_, .int .i64 x0.E_]), (40, .bool true), (40, .bool y1), (39, .bool y1), (2, .ptr 0 0), (3, .ptr 1 0), (4, .bool false), (5, .bool y1), (6, .ptr 2 0), (7, .ptr 3 0), (8, .int .i64 y63), (9, .int .i64 s72)]) (H2 := [.box [.bool x0.Neg_, lsv (encI .u8) 1 x0.D_, .int .i64 x0.E_], .box [.bool x1.Neg_, lsv (encI .u8) 1 x1.D_, .int .i64 x1.E_], .box [.bool (!x0.Neg_), lsv (encI .u8) 1 x0.D_, .int .i64 x0.E_], .box [.bool (!x1.Neg_), lsv (encI .u8) 1 x1.D_, .int .i64 x1.E_], .res, .res, .res]) (by kernel_rfl) ?_
          obtain ⟨y112, hy113, h114⟩ := bindS h111
          refine RJ.call0 (d := (some 46)) (f := 17) (args := [.agg [.bool x0.Neg_, lsv (encI .u8) 1 x0.D_, .int .i64 x0.E_], .agg [.bool x1.Neg_, lsv (encI .u8) 1 x1.D_, .int .i64 x1.E_]]) (v := .int .i64 y112) (tr2 := [([], []), ([], []), ([4, 5], []), ([6, 7], []), ([], [8, 9]), ([0, 1], []), ([2, 3], []), ([], [10, 11])]) (by kernel_rfl) (by kernel_rfl) (.cons (Le.refl _) (.cons (Le.refl _) .nil)) (dec_Cmp_ok hy113) (by kernel_rfl) ?_
          refine RJ.segD 4 (tr2 := [([], []), ([], []), ([4, 5], []), ([6, 7], []), ([], [8, 9]), ([0, 1], []), ([2, 3], []), ([], [10, 11]), ([], []), ([], []), ([], []), ([], [])]) (L2 := [(50, .bool ((decide (y109 = (IntKind.wrap .i64 (0 - y112)))))), (49, .bool ((decide (y109 = (IntKind.wrap .i64 (0 - y112)))))), (48, .bool ((decide (y109 = (IntKind.wrap .i64 (0 - y112)))))), (47, .int .i64 (IntKind.wrap .i64 (0 - y112))), (46, .int .i64 y112), (45, .agg [.bool x1.Neg_, lsv (encI .u8) 1 x1.D_, .int .i64 x1.E_]), (44, .agg [.bool x0.Neg_, lsv (encI .u8) 1 x0.D_, .int .i64 x0.E_]), (43, .int .i64 y109), (42, .agg [.bool (!x1.Neg_), lsv (encI .u8) 1 x1.D_, .int .i64 x1.E_]), (41, .agg [.bool (!x0.Neg_), lsv (encI .u8) 1 x0.D_, .int .i64 x0.E_]), (40, .bool true), (40, .bool y1), (39, .bool y1), (2, .ptr 0 0), (3, .ptr 1 0), (4, .bool false), (5, .bool y1), (6, .ptr 2 0), (7, .ptr 3 0), (8, .int .i64 y63), (9, .int .i64 s72)]) (H2 := [.box [.bool x0.Neg_, lsv (encI .u8) 1 x0.D_, .int .i64 x0.E_], .box [.bool x1.Neg_, lsv (encI .u8) 1 x1.D_, .int .i64 x1.E_], .box [.bool (!x0.Neg_), lsv (encI .u8) 1 x0.D_, .int .i64 x0.E_], .box [.bool (!x1.Neg_), lsv (encI .u8) 1 x1.D_, .int .i64 x1.E_], .res, .res, .res]) (by kernel_rfl) ?_
          refine RJ.caseB 50 (b := (decide (y109 = (IntKind.wrap .i64 (0 - y112))))) (by kernel_rfl) (fun hb115 => ?_) (fun hb115 => ?_)
          · have h116 := condT hb115 h114
            refine RJ.segD 5 (tr2 := [([], []), ([], []), ([4, 5], []), ([6, 7], []), ([], [8, 9]), ([0, 1], []), ([2, 3], []), ([], [10, 11]), ([], []), ([], []), ([], []), ([], []), ([], []), ([], []), ([], []), ([], []), ([], [])]) (L2 := [(55, .bool (decide (y63 = s72))), (54, .bool (decide (y63 = s72))), (53, .bool (decide (y63 = s72))), (52, .int .i64 s72), (51, .int .i64 y63), (50, .bool true), (50, .bool ((decide (y109 = (IntKind.wrap .i64 (0 - y112)))))), (49, .bool ((decide (y109 = (IntKind.wrap .i64 (0 - y112)))))), (48, .bool ((decide (y109 = (IntKind.wrap .i64 (0 - y112)))))), (47, .int .i64 (IntKind.wrap .i64 (0 - y112))), (46, .int .i64 y112), (45, .agg [.bool x1.Neg_, lsv (encI .u8) 1 x1.D_, .int .i64 x1.E_]), (44, .agg [.bool x0.Neg_, lsv (encI .u8) 1 x0.D_, .int .i64 x0.E_]), (43, .int .i64 y109), (42, .agg [.bool (!x1.Neg_), lsv (encI .u8) 1 x1.D_, .int .i64 x1.E_]), (41, .agg [.bool (!x0.Neg_), lsv (encI .u8) 1 x0.D_, .int .i64 x0.E_]), (40, .bool true), (40, .bool y1), (39, .bool y1), (2, .ptr 0 0), (3, .ptr 1 0), (4, .bool false), (5, .bool y1), (6, .ptr 2 0), (7, .ptr 3 0), (8, .int .i64 y63), (9, .int .i64 s72)]) (H2 := [.box [.bool x0.Neg_, lsv (encI .u8) 1 x0.D_, .int .i64 x0.E_], .box [.bool x1.Neg_, lsv (encI .u8) 1 x1.D_, .int .i64 x1.E_], .box [.bool (!x0.Neg_), lsv (encI .u8) 1 x0.D_, .int .i64 x0.E_], .box [.bool (!x1.Neg_), lsv (encI .u8) 1 x1.D_, .int .i64 x1.E_], .res, .res, .res]) (by kernel_rfl) ?_
            refine RJ.caseB 55 (b := (decide (y63 = s72))) (by kernel_rfl) (fun hb118 => ?_) (fun hb118 => ?_)
            · have h119 := condT hb118 h116
              refine RJ.segD 4 (tr2 := [([], []), ([], []), ([4, 5], []), ([6, 7], []), ([], [8, 9]), ([0, 1], []), ([2, 3], []), ([], [10, 11]), ([], []), ([], []), ([], []), ([], []), ([], []), ([], []), ([], []), ([], []), ([], []), ([], []), ([4, 5], []), ([], []), ([0, 1], [])]) (L2 := [(59, lsv (encI .u8) 1 x0.D_), (58, .ptr 0 1), (57, lsv (encI .u8) 1 x0.D_), (56, .ptr 2 1), (55, .bool true), (55, .bool (decide (y63 = s72))), (54, .bool (decide (y63 = s72))), (53, .bool (decide (y63 = s72))), (52, .int .i64 s72), (51, .int .i64 y63), (50, .bool true), (50, .bool ((decide (y109 = (IntKind.wrap .i64 (0 - y112)))))), (49, .bool ((decide (y109 = (IntKind.wrap .i64 (0 - y112)))))), (48, .bool ((decide (y109 = (IntKind.wrap .i64 (0 - y112)))))), (47, .int .i64 (IntKind.wrap .i64 (0 - y112))), (46, .int .i64 y112), (45, .agg [.bool x1.Neg_, lsv (encI .u8) 1 x1.D_, .int .i64 x1.E_]), (44, .agg [.bool x0.Neg_, lsv (encI .u8) 1 x0.D_, .int .i64 x0.E_]), (43, .int .i64 y109), (42, .agg [.bool (!x1.Neg_), lsv (encI .u8) 1 x1.D_, .int .i64 x1.E_]), (41, .agg [.bool (!x0.Neg_), lsv (encI .u8) 1 x0.D_, .int .i64 x0.E_]), (40, .bool true), (40, .bool y1), (39, .bool y1), (2, .ptr 0 0), (3, .ptr 1 0), (4, .bool false), (5, .bool y1), (6, .ptr 2 0), (7, .ptr 3 0), (8, .int .i64 y63), (9, .int .i64 s72)]) (H2 := [.box [.bool x0.Neg_, lsv (encI .u8) 1 x0.D_, .int .i64 x0.E_], .box [.bool x1.Neg_, lsv (encI .u8) 1 x1.D_, .int .i64 x1.E_], .box [.bool (!x0.Neg_), lsv (encI .u8) 1 x0.D_, .int .i64 x0.E_], .box [.bool (!x1.Neg_), lsv (encI .u8) 1 x1.D_, .int .i64 x1.E_], .res, .res, .res]) (by kernel_rfl) ?_
              obtain ⟨y121, hy122, h123⟩ := bindS h119
              refine RJ.call0 (d := (some 60)) (f := 19) (args := [lsv (encI .u8) 1 x0.D_, lsv (encI .u8) 1 x0.D_]) (v := .bool y121) (tr2 := [([], []), ([], []), ([4, 5], []), ([6, 7], []), ([], [8, 9]), ([0, 1], []), ([2, 3], []), ([], [10, 11]), ([], []), ([], []), ([], []), ([], []), ([], []), ([], []), ([], []), ([], []), ([], []), ([], []), ([4, 5], []), ([], []), ([0, 1], []), ([], [12, 13])]) (by kernel_rfl) (by kernel_rfl) (.cons (Le.refl _) (.cons (Le.refl _) .nil)) (exergueref01_Row_ok hy122) (by kernel_rfl) ?_
              refine RJ.segD 2 (tr2 := [([], []), ([], []), ([4, 5], []), ([6, 7], []), ([], [8, 9]), ([0, 1], []), ([2, 3], []), ([], [10, 11]), ([], []), ([], []), ([], []), ([], []), ([], []), ([], []), ([], []), ([], []), ([], []), ([], []), ([4, 5], []), ([], []), ([0, 1], []), ([], [12, 13]), ([], []), ([], [])]) (L2 := [(4, .bool y121), (61, .bool y121), (60, .bool y121), (59, lsv (encI .u8) 1 x0.D_), (58, .ptr 0 1), (57, lsv (encI .u8) 1 x0.D_), (56, .ptr 2 1), (55, .bool true), (55, .bool (decide (y63 = s72))), (54, .bool (decide (y63 = s72))), (53, .bool (decide (y63 = s72))), (52, .int .i64 s72), (51, .int .i64 y63), (50, .bool true), (50, .bool ((decide (y109 = (IntKind.wrap .i64 (0 - y112)))))), (49, .bool ((decide (y109 = (IntKind.wrap .i64 (0 - y112)))))), (48, .bool ((decide (y109 = (IntKind.wrap .i64 (0 - y112)))))), (47, .int .i64 (IntKind.wrap .i64 (0 - y112))), (46, .int .i64 y112), (45, .agg [.bool x1.Neg_, lsv (encI .u8) 1 x1.D_, .int .i64 x1.E_]), (44, .agg [.bool x0.Neg_, lsv (encI .u8) 1 x0.D_, .int .i64 x0.E_]), (43, .int .i64 y109), (42, .agg [.bool (!x1.Neg_), lsv (encI .u8) 1 x1.D_, .int .i64 x1.E_]), (41, .agg [.bool (!x0.Neg_), lsv (encI .u8) 1 x0.D_, .int .i64 x0.E_]), (40, .bool true), (40, .bool y1), (39, .bool y1), (2, .ptr 0 0), (3, .ptr 1 0), (4, .bool false), (5, .bool y1), (6, .ptr 2 0), (7, .ptr 3 0), (8, .int .i64 y63), (9, .int .i64 s72)]) (H2 := [.box [.bool x0.Neg_, lsv (encI .u8) 1 x0.D_, .int .i64 x0.E_], .box [.bool x1.Neg_, lsv (encI .u8) 1 x1.D_, .int .i64 x1.E_], .box [.bool (!x0.Neg_), lsv (encI .u8) 1 x0.D_, .int .i64 x0.E_], .box [.bool (!x1.Neg_), lsv (encI .u8) 1 x1.D_, .int .i64 x1.E_], .res, .res, .res]) (by kernel_rfl) ?_
              refine RJ.end (by kernel_rfl) ?_
              obtain rfl := Option.some.inj h123
              refine PJ.wk (Wk.sel (L2 := [(4, .bool y121)]) (H2 := []) 0 (by rw [hFH]; rfl) hFD [] (by kernel_rfl) (by kernel_rfl) (by decide) (by kernel_rfl) (by kernel_rfl) (by kernel_rfl) (by kernel_rfl)) ?_
              exact PJ.cutN [4] (by kernel_rfl) (by kernel_rfl)
            · have h120 := condF hb118 h116
              refine RJ.segD 7 (tr2 := [([], []), ([], []), ([4, 5], []), ([6, 7], []), ([], [8, 9]), ([0, 1], []), ([2, 3], []), ([], [10, 11]), ([], []), ([], []), ([], []), ([], []), ([], []), ([], []), ([], []), ([], []), ([], []), ([], []), ([], []), ([], []), ([], []), ([], [12, 13]), ([], []), ([], [])]) (L2 := [(4, .bool false), (61, .bool false), (60, .tup []), (59, .tup []), (58, .tup []), (57, .tup []), (56, .tup []), (55, .bool false), (55, .bool (decide (y63 = s72))), (54, .bool (decide (y63 = s72))), (53, .bool (decide (y63 = s72))), (52, .int .i64 s72), (51, .int .i64 y63), (50, .bool true), (50, .bool ((decide (y109 = (IntKind.wrap .i64 (0 - y112)))))), (49, .bool ((decide (y109 = (IntKind.wrap .i64 (0 - y112)))))), (48, .bool ((decide (y109 = (IntKind.wrap .i64 (0 - y112)))))), (47, .int .i64 (IntKind.wrap .i64 (0 - y112))), (46, .int .i64 y112), (45, .agg [.bool x1.Neg_, lsv (encI .u8) 1 x1.D_, .int .i64 x1.E_]), (44, .agg [.bool x0.Neg_, lsv (encI .u8) 1 x0.D_, .int .i64 x0.E_]), (43, .int .i64 y109), (42, .agg [.bool (!x1.Neg_), lsv (encI .u8) 1 x1.D_, .int .i64 x1.E_]), (41, .agg [.bool (!x0.Neg_), lsv (encI .u8) 1 x0.D_, .int .i64 x0.E_]), (40, .bool true), (40, .bool y1), (39, .bool y1), (2, .ptr 0 0), (3, .ptr 1 0), (4, .bool false), (5, .bool y1), (6, .ptr 2 0), (7, .ptr 3 0), (8, .int .i64 y63), (9, .int .i64 s72)]) (H2 := [.box [.bool x0.Neg_, lsv (encI .u8) 1 x0.D_, .int .i64 x0.E_], .box [.bool x1.Neg_, lsv (encI .u8) 1 x1.D_, .int .i64 x1.E_], .box [.bool (!x0.Neg_), lsv (encI .u8) 1 x0.D_, .int .i64 x0.E_], .box [.bool (!x1.Neg_), lsv (encI .u8) 1 x1.D_, .int .i64 x1.E_], .res, .res, .res]) (by kernel_rfl) ?_
              refine RJ.end (by kernel_rfl) ?_
              obtain rfl := Option.some.inj h120
              refine PJ.wk (Wk.sel (L2 := [(4, .bool false)]) (H2 := []) 0 (by rw [hFH]; rfl) hFD [] (by kernel_rfl) (by kernel_rfl) (by decide) (by kernel_rfl) (by kernel_rfl) (by kernel_rfl) (by kernel_rfl)) ?_
              exact PJ.cutN [4] (by kernel_rfl) (by kernel_rfl)
          · have h117 := condF hb115 h114
            refine RJ.segD 12 (tr2 := [([], []), ([], []), ([4, 5], []), ([6, 7], []), ([], [8, 9]), ([0, 1], []), ([2, 3], []), ([], [10, 11]), ([], []), ([], []), ([], []), ([], []), ([], []), ([], []), ([], []), ([], []), ([], []), ([], []), ([], []), ([], []), ([], []), ([], [12, 13]), ([], []), ([], [])]) (L2 := [(4, .bool false), (61, .bool false), (60, .tup []), (59, .tup []), (58, .tup []), (57, .tup []), (56, .tup []), (55, .bool false), (54, .bool false), (53, .tup []), (52, .tup []), (51, .tup []), (50, .bool false), (50, .bool ((decide (y109 = (IntKind.wrap .i64 (0 - y112)))))), (49, .bool ((decide (y109 = (IntKind.wrap .i64 (0 - y112)))))), (48, .bool ((decide (y109 = (IntKind.wrap .i64 (0 - y112)))))), (47, .int .i64 (IntKind.wrap .i64 (0 - y112))), (46, .int .i64 y112), (45, .agg [.bool x1.Neg_, lsv (encI .u8) 1 x1.D_, .int .i64 x1.E_]), (44, .agg [.bool x0.Neg_, lsv (encI .u8) 1 x0.D_, .int .i64 x0.E_]), (43, .int .i64 y109), (42, .agg [.bool (!x1.Neg_), lsv (encI .u8) 1 x1.D_, .int .i64 x1.E_]), (41, .agg [.bool (!x0.Neg_), lsv (encI .u8) 1 x0.D_, .int .i64 x0.E_]), (40, .bool true), (40, .bool y1), (39, .bool y1), (2, .ptr 0 0), (3, .ptr 1 0), (4, .bool false), (5, .bool y1), (6, .ptr 2 0), (7, .ptr 3 0), (8, .int .i64 y63), (9, .int .i64 s72)]) (H2 := [.box [.bool x0.Neg_, lsv (encI .u8) 1 x0.D_, .int .i64 x0.E_], .box [.bool x1.Neg_, lsv (encI .u8) 1 x1.D_, .int .i64 x1.E_], .box [.bool (!x0.Neg_), lsv (encI .u8) 1 x0.D_, .int .i64 x0.E_], .box [.bool (!x1.Neg_), lsv (encI .u8) 1 x1.D_, .int .i64 x1.E_], .res, .res, .res]) (by kernel_rfl) ?_
            refine RJ.end (by kernel_rfl) ?_
            obtain rfl := Option.some.inj h117
            refine PJ.wk (Wk.sel (L2 := [(4, .bool false)]) (H2 := []) 0 (by rw [hFH]; rfl) hFD [] (by kernel_rfl) (by kernel_rfl) (by decide) (by kernel_rfl) (by kernel_rfl) (by kernel_rfl) (by kernel_rfl)) ?_
            exact PJ.cutN [4] (by kernel_rfl) (by kernel_rfl)
        · have h108 := condF hb106 hy103
          refine RJ.segD 22 (tr2 := [([], []), ([], []), ([], []), ([], []), ([], [8, 9]), ([], []), ([], []), ([], [10, 11]), ([], []), ([], []), ([], []), ([], []), ([], []), ([], []), ([], []), ([], []), ([], []), ([], []), ([], []), ([], []), ([], []), ([], [12, 13]), ([], []), ([], [])]) (L2 := [(4, .bool false), (61, .bool false), (60, .tup []), (59, .tup []), (58, .tup []), (57, .tup []), (56, .tup []), (55, .bool false), (54, .bool false), (53, .tup []), (52, .tup []), (51, .tup []), (50, .bool false), (49, .bool false), (48, .tup []), (47, .tup []), (46, .tup []), (45, .tup []), (44, .tup []), (43, .tup []), (42, .tup []), (41, .tup []), (40, .bool false), (40, .bool y1), (39, .bool y1), (2, .ptr 0 0), (3, .ptr 1 0), (4, .bool false), (5, .bool y1), (6, .ptr 2 0), (7, .ptr 3 0), (8, .int .i64 y63), (9, .int .i64 s72)]) (H2 := [.box [.bool x0.Neg_, lsv (encI .u8) 1 x0.D_, .int .i64 x0.E_], .box [.bool x1.Neg_, lsv (encI .u8) 1 x1.D_, .int .i64 x1.E_], .box [.bool (!x0.Neg_), lsv (encI .u8) 1 x0.D_, .int .i64 x0.E_], .box [.bool (!x1.Neg_), lsv (encI .u8) 1 x1.D_, .int .i64 x1.E_], .res, .res, .res]) (by kernel_rfl) ?_
          refine RJ.end (by kernel_rfl) ?_
          obtain rfl := Option.some.inj h108
          refine PJ.wk (Wk.sel (L2 := [(4, .bool false)]) (H2 := []) 0 (by rw [hFH]; rfl) hFD [] (by kernel_rfl) (by kernel_rfl) (by decide) (by kernel_rfl) (by kernel_rfl) (by kernel_rfl) (by kernel_rfl)) ?_
          exact PJ.cutN [4] (by kernel_rfl) (by kernel_rfl)
      · refine K.ret (by kernel_rfl) ?_
        obtain rfl := Option.some.inj h105
        exact K.ret0 (.inr rfl) hFn hFH hFD (by kernel_rfl) (by kernel_rfl) (by kernel_rfl)

end Go.Proofs.YtcldeecdhdcjdaaDoor
