/-
  What the functions of this program come to, as functions of natives, each with the proof that it does. No conditions.
-/
import Derived.Test.YtddkgejgocahjaaProg
import Derived.Test.YtddkgejgocahjaaSyV
import Derived.Test.YtddkgejgocahjaaGa
namespace Go.Proofs.Ytddkgejgocahjaa
open Go Go.Sy Go.RowKit
set_option linter.unusedVariables false
set_option linter.unusedSimpArgs false
set_option maxRecDepth 100000

def exergueref01_Row (x0 : List Int) (x1 : List Int) : Option (Bool) :=
  (bif (decide (¬ (x0.length : Int) = (x1.length : Int))) then (some false) else (Option.bind (loopN (fun (s51 : Int) => (bif (decide (s51 < (x0.length : Int))) then (bif inR s51 x0.length then (bif inR s51 x1.length then (bif (decide (¬ (nth x0 s51) = (nth x1 s51))) then (some (.inr (.inr false))) else (some (.inl (IntKind.wrap .i64 (s51 + 1))))) else none) else none) else (some (.inr (.inl ()))))) big 0) (joinX fun (s46 : Unit) => (some true))))
theorem exergueref01_Row_ok {x0 : List Int} {x1 : List Int} {r : Bool} (h : exergueref01_Row x0 x1 = some r) : SC Try.prog 20 [lsv (encI .u8) 1 x0, lsv (encI .u8) 1 x1] [] (.bool r) [] := by
  refine K.fn (fn := Try.f20) (by kernel_rfl) (by kernel_rfl) (by kernel_rfl) (by kernel_rfl) (by kernel_rfl) (fun F hFn hFH hFD => ?_)
  unfold exergueref01_Row at h
  refine K.seq (by kernel_rfl) ?_
  refine K.region (by kernel_rfl) ?_
  refine RJ.seg 1 [0, 1, 4] (L2 := [(0, lsv (encI .u8) 1 x0), (1, lsv (encI .u8) 1 x1), (4, .bool false)]) (H2 := []) (by kernel_rfl) ?_
  refine RJ.end (by kernel_rfl) ?_
  refine PJ.next ?_
  refine K.seq (by kernel_rfl) ?_
  refine K.seq (by kernel_rfl) ?_
  refine K.region (by kernel_rfl) ?_
  refine RJ.seg 5 [0, 1, 4, 10] (L2 := [(0, lsv (encI .u8) 1 x0), (1, lsv (encI .u8) 1 x1), (4, .bool false), (10, .bool ((decide (¬ (x0.length : Int) = (x1.length : Int)))))]) (H2 := []) (by kernel_rfl) ?_
  refine RJ.end (by kernel_rfl) ?_
  refine PJ.next ?_
  refine J.caseB 10 (b := (decide (¬ (x0.length : Int) = (x1.length : Int)))) (by kernel_rfl) (fun hb1 => ?_) (fun hb1 => ?_)
  · have h2 := condT hb1 h
    refine K.condT (by kernel_rfl) ?_
    refine K.seq (by kernel_rfl) ?_
    refine K.region (by kernel_rfl) ?_
    refine RJ.seg 1 [0, 1, 4] (L2 := [(0, lsv (encI .u8) 1 x0), (1, lsv (encI .u8) 1 x1), (4, .bool false)]) (H2 := []) (by kernel_rfl) ?_
    refine RJ.end (by kernel_rfl) ?_
    refine PJ.next ?_
    refine K.ret (by kernel_rfl) ?_
    refine PJ.passRet ?_
    obtain rfl := Option.some.inj h2
    exact K.ret0 (.inr rfl) hFn hFH hFD (by kernel_rfl) (by kernel_rfl) (by kernel_rfl)
  · have h3 := condF hb1 h
    refine K.condF (by kernel_rfl) ?_
    refine K.skip (by kernel_rfl) ?_
    refine PJ.next ?_
    obtain ⟨y47, hy48, h49⟩ := bindS h3
    refine K.cutX (by kernel_rfl) (fun (s46 : Unit) => ([(4, .bool false)], [])) y47 ?_ (fun s46 hs => ?_)
    · refine K.seq (by kernel_rfl) ?_
      refine K.region (by kernel_rfl) ?_
      refine RJ.seg 1 [0, 1, 4, 5] (L2 := [(0, lsv (encI .u8) 1 x0), (1, lsv (encI .u8) 1 x1), (4, .bool false), (5, .int .i64 0)]) (H2 := []) (by kernel_rfl) ?_
      refine RJ.end (by kernel_rfl) ?_
      refine PJ.next ?_
      refine K.block 0 (by kernel_rfl) ?_
      refine K.loop (by kernel_rfl) (fun (s51 : Int) => ([(0, lsv (encI .u8) 1 x0), (1, lsv (encI .u8) 1 x1), (4, .bool false), (5, .int .i64 s51)], [])) hy48 [0, 1, 4, 5] (by kernel_rfl) (by kernel_rfl) (fun s51 x79 hs78 => ?_)
      refine K.seq (by kernel_rfl) ?_
      refine K.seq (by kernel_rfl) ?_
      refine K.region (by kernel_rfl) ?_
      refine RJ.seg 4 [0, 1, 4, 5, 14] (L2 := [(0, lsv (encI .u8) 1 x0), (1, lsv (encI .u8) 1 x1), (4, .bool false), (5, .int .i64 s51), (14, .bool ((decide (s51 < (x0.length : Int)))))]) (H2 := []) (by kernel_rfl) ?_
      refine RJ.end (by kernel_rfl) ?_
      refine PJ.next ?_
      refine J.caseB 14 (b := (decide (s51 < (x0.length : Int)))) (by kernel_rfl) (fun hb80 => ?_) (fun hb80 => ?_)
      · have h81 := condT hb80 hs78
        refine K.condT (by kernel_rfl) ?_
        refine K.skip (by kernel_rfl) ?_
        refine PJ.next ?_
        refine K.seq (by kernel_rfl) ?_
        refine K.block 1 (by kernel_rfl) ?_
        refine K.seq (by kernel_rfl) ?_
        refine J.keep [0, 1, 4, 5] (L2 := [(0, lsv (encI .u8) 1 x0), (1, lsv (encI .u8) 1 x1), (4, .bool false), (5, .int .i64 s51)]) (by kernel_rfl) ?_
        refine K.draw (by kernel_rfl) (by kernel_rfl) (by kernel_rfl) (H2 := []) (by kernel_rfl) (n := 0) (by kernel_rfl) ?_
        refine RJ.segD 2 (tr2 := [([], []), ([], [])]) (L2 := [(18, .int .i64 s51), (17, lsv (encI .u8) 1 x0), (0, lsv (encI .u8) 1 x0), (1, lsv (encI .u8) 1 x1), (4, .bool false), (5, .int .i64 s51)]) (H2 := []) (by kernel_rfl) ?_
        obtain ⟨hm, h83⟩ := asrt h81
        refine RJ.rel (d := (some 19)) (ef := ⟨.ep (((x0.flatMap (encI .u8)).drop ((s51 : Int).toNat * 1)).take 1), [], []⟩) (ef' := ⟨.ep ((encI .u8) (nth x0 s51)), [], []⟩) (c := inR s51 x0.length) (tr2 := [([], []), ([], []), ([], [])]) (H2 := []) (by kernel_rfl) hm (fun hc => N.idx (encI_len .u8) hc) (by kernel_rfl) ?_
        refine RJ.segD 3 (tr2 := [([], []), ([], []), ([], []), ([], []), ([], []), ([], [])]) (L2 := [(22, .int .i64 s51), (21, lsv (encI .u8) 1 x1), (20, .int .u8 (nth x0 s51)), (19, .ep [.int .u8 (nth x0 s51)]), (18, .int .i64 s51), (17, lsv (encI .u8) 1 x0), (0, lsv (encI .u8) 1 x0), (1, lsv (encI .u8) 1 x1), (4, .bool false), (5, .int .i64 s51)]) (H2 := []) (by kernel_rfl) ?_
        obtain ⟨hm, h84⟩ := asrt h83
        refine RJ.rel (d := (some 23)) (ef := ⟨.ep (((x1.flatMap (encI .u8)).drop ((s51 : Int).toNat * 1)).take 1), [], []⟩) (ef' := ⟨.ep ((encI .u8) (nth x1 s51)), [], []⟩) (c := inR s51 x1.length) (tr2 := [([], []), ([], []), ([], []), ([], []), ([], []), ([], []), ([], [])]) (H2 := []) (by kernel_rfl) hm (fun hc => N.idx (encI_len .u8) hc) (by kernel_rfl) ?_
        refine RJ.segD 2 (tr2 := [([], []), ([], []), ([], []), ([], []), ([], []), ([], []), ([], []), ([], []), ([], [])]) (L2 := [(25, .bool ((decide (¬ (nth x0 s51) = (nth x1 s51))))), (24, .int .u8 (nth x1 s51)), (23, .ep [.int .u8 (nth x1 s51)]), (22, .int .i64 s51), (21, lsv (encI .u8) 1 x1), (20, .int .u8 (nth x0 s51)), (19, .ep [.int .u8 (nth x0 s51)]), (18, .int .i64 s51), (17, lsv (encI .u8) 1 x0), (0, lsv (encI .u8) 1 x0), (1, lsv (encI .u8) 1 x1), (4, .bool false), (5, .int .i64 s51)]) (H2 := []) (by kernel_rfl) ?_
        refine RJ.end (by kernel_rfl) ?_
        refine PJ.next ?_
        refine J.caseB 25 (b := (decide (¬ (nth x0 s51) = (nth x1 s51)))) (by kernel_rfl) (fun hb85 => ?_) (fun hb85 => ?_)
        · have h86 := condT hb85 h84
          refine K.condT (by kernel_rfl) ?_
          refine K.seq (by kernel_rfl) ?_
          refine K.region (by kernel_rfl) ?_
          refine RJ.seg 1 [0, 1, 4, 5] (L2 := [(0, lsv (encI .u8) 1 x0), (1, lsv (encI .u8) 1 x1), (4, .bool false), (5, .int .i64 s51)]) (H2 := []) (by kernel_rfl) ?_
          refine RJ.end (by kernel_rfl) ?_
          refine PJ.next ?_
          refine K.ret (by kernel_rfl) ?_
          refine PJ.blockRet ?_
          refine PJ.passRet ?_
          obtain rfl := Option.some.inj h86
          refine PJ.loopOut (fun e => nomatch e) (fun he90 => ?_)
          have h88 := congrArg some he90
          refine PJ.blockRet ?_
          obtain rfl := Option.some.inj h88
          have h89 := joinX_inr h49
          refine PJ.cutXr (fun e => nomatch e) ?_
          obtain rfl := Option.some.inj h89
          exact K.ret0 (.inr rfl) hFn hFH hFD (by kernel_rfl) (by kernel_rfl) (by kernel_rfl)
        · have h87 := condF hb85 h84
          refine K.condF (by kernel_rfl) ?_
          refine K.skip (by kernel_rfl) ?_
          refine PJ.blockNormal ?_
          refine PJ.next ?_
          refine K.region (by kernel_rfl) ?_
          refine RJ.seg 3 [0, 1, 4, 5] (L2 := [(0, lsv (encI .u8) 1 x0), (1, lsv (encI .u8) 1 x1), (4, .bool false), (5, .int .i64 (IntKind.wrap .i64 (s51 + 1)))]) (H2 := []) (by kernel_rfl) ?_
          refine RJ.end (by kernel_rfl) ?_
          obtain rfl := Option.some.inj h87
          exact PJ.loopNext [0, 1, 4, 5] (by kernel_rfl) (by kernel_rfl)
      · have h82 := condF hb80 hs78
        refine K.condF (by kernel_rfl) ?_
        refine K.exit 0 (by kernel_rfl) ?_
        refine PJ.passExit ?_
        obtain rfl := Option.some.inj h82
        refine PJ.loopOut (fun e => nomatch e) (fun he92 => ?_)
        have h91 := congrArg some he92
        refine PJ.blockOut ?_
        obtain rfl := Option.some.inj h91
        exact PJ.cutXl [4] (by kernel_rfl) (by kernel_rfl)
    · subst hs
      have h50 := joinX_inl h49
      refine K.seq (by kernel_rfl) ?_
      refine K.region (by kernel_rfl) ?_
      refine RJ.seg 1 [4] (L2 := [(4, .bool true)]) (H2 := []) (by kernel_rfl) ?_
      refine RJ.end (by kernel_rfl) ?_
      refine PJ.next ?_
      refine K.ret (by kernel_rfl) ?_
      obtain rfl := Option.some.inj h50
      exact K.ret0 (.inr rfl) hFn hFH hFD (by kernel_rfl) (by kernel_rfl) (by kernel_rfl)

def exergueref07_Same (x0 : St23) (x1 : St23) : Option (Bool) :=
  (Option.bind (exergueref01_Row x0.I_ x1.I_) fun y1 => (Option.bind (bif y1 then (Option.bind (exergueref01_Row x0.F_ x1.F_) fun y24 => (bif y24 then (bif (decide (x0.W_ = x1.W_)) then (some (decide (x0.C_ = x1.C_))) else (some false)) else (some false))) else (some false)) fun (s16 : Bool) => (some s16)))
theorem exergueref07_Same_ok {x0 : St23} {x1 : St23} {r : Bool} (h : exergueref07_Same x0 x1 = some r) : SC Try.prog 15 [.agg [lsv (encI .u8) 1 x0.I_, lsv (encI .u8) 1 x0.F_, .int .i64 x0.W_, .int .i64 x0.C_], .agg [lsv (encI .u8) 1 x1.I_, lsv (encI .u8) 1 x1.F_, .int .i64 x1.W_, .int .i64 x1.C_]] [] (.bool r) [] := by
  refine K.fn (fn := Try.f15) (by kernel_rfl) (by kernel_rfl) (by kernel_rfl) (by kernel_rfl) (by kernel_rfl) (fun F hFn hFH hFD => ?_)
  unfold exergueref07_Same at h
  refine K.seq (by kernel_rfl) ?_
  refine K.region (by kernel_rfl) ?_
  refine RJ.seg 3 [2, 3, 4] (L2 := [(2, .ptr 0 0), (3, .ptr 1 0), (4, .bool false)]) (H2 := [.box [lsv (encI .u8) 1 x0.I_, lsv (encI .u8) 1 x0.F_, .int .i64 x0.W_, .int .i64 x0.C_], .box [lsv (encI .u8) 1 x1.I_, lsv (encI .u8) 1 x1.F_, .int .i64 x1.W_, .int .i64 x1.C_]]) (by kernel_rfl) ?_
  refine RJ.end (by kernel_rfl) ?_
  refine PJ.next ?_
  refine K.seq (by kernel_rfl) ?_
  refine K.region (by kernel_rfl) ?_
  refine RJ.seg 4 [2, 3, 4, 7, 9] (L2 := [(2, .ptr 0 0), (3, .ptr 1 0), (4, .bool false), (7, lsv (encI .u8) 1 x0.I_), (9, lsv (encI .u8) 1 x1.I_)]) (H2 := [.box [lsv (encI .u8) 1 x0.I_, lsv (encI .u8) 1 x0.F_, .int .i64 x0.W_, .int .i64 x0.C_], .box [lsv (encI .u8) 1 x1.I_, lsv (encI .u8) 1 x1.F_, .int .i64 x1.W_, .int .i64 x1.C_]]) (by kernel_rfl) ?_
  obtain ⟨y1, hy2, h3⟩ := bindS h
  refine RJ.call0 (d := (some 10)) (f := 20) (args := [lsv (encI .u8) 1 x0.I_, lsv (encI .u8) 1 x1.I_]) (v := .bool y1) (tr2 := []) (by kernel_rfl) (by kernel_rfl) (.cons (Le.refl _) (.cons (Le.refl _) .nil)) (exergueref01_Row_ok hy2) (by kernel_rfl) ?_
  refine RJ.seg 1 [2, 3, 4, 5] (L2 := [(2, .ptr 0 0), (3, .ptr 1 0), (4, .bool false), (5, .bool y1)]) (H2 := [.box [lsv (encI .u8) 1 x0.I_, lsv (encI .u8) 1 x0.F_, .int .i64 x0.W_, .int .i64 x0.C_], .box [lsv (encI .u8) 1 x1.I_, lsv (encI .u8) 1 x1.F_, .int .i64 x1.W_, .int .i64 x1.C_]]) (by kernel_rfl) ?_
  refine RJ.end (by kernel_rfl) ?_
  refine PJ.next ?_
  obtain ⟨s16, hy18, h20⟩ := bindS h3
  refine K.cutN (by kernel_rfl) (fun (s16 : Bool) => ([(4, .bool s16)], [])) s16 ?_ ?_
  · refine K.region (by kernel_rfl) ?_
    refine RJ.seg 2 [2, 3, 4, 12] (L2 := [(2, .ptr 0 0), (3, .ptr 1 0), (4, .bool false), (12, .bool y1)]) (H2 := [.box [lsv (encI .u8) 1 x0.I_, lsv (encI .u8) 1 x0.F_, .int .i64 x0.W_, .int .i64 x0.C_], .box [lsv (encI .u8) 1 x1.I_, lsv (encI .u8) 1 x1.F_, .int .i64 x1.W_, .int .i64 x1.C_]]) (by kernel_rfl) ?_
    refine RJ.caseB 12 (b := y1) (by kernel_rfl) (fun hb21 => ?_) (fun hb21 => ?_)
    · have h22 := condT hb21 hy18
      refine RJ.seg 4 [2, 3, 4, 12, 14, 16] (L2 := [(2, .ptr 0 0), (3, .ptr 1 0), (4, .bool false), (12, .bool true), (14, lsv (encI .u8) 1 x0.F_), (16, lsv (encI .u8) 1 x1.F_)]) (H2 := [.box [lsv (encI .u8) 1 x0.I_, lsv (encI .u8) 1 x0.F_, .int .i64 x0.W_, .int .i64 x0.C_], .box [lsv (encI .u8) 1 x1.I_, lsv (encI .u8) 1 x1.F_, .int .i64 x1.W_, .int .i64 x1.C_]]) (by kernel_rfl) ?_
      obtain ⟨y24, hy25, h26⟩ := bindS h22
      refine RJ.call0 (d := (some 17)) (f := 20) (args := [lsv (encI .u8) 1 x0.F_, lsv (encI .u8) 1 x1.F_]) (v := .bool y24) (tr2 := []) (by kernel_rfl) (by kernel_rfl) (.cons (Le.refl _) (.cons (Le.refl _) .nil)) (exergueref01_Row_ok hy25) (by kernel_rfl) ?_
      refine RJ.seg 2 [2, 3, 4, 19] (L2 := [(2, .ptr 0 0), (3, .ptr 1 0), (4, .bool false), (19, .bool y24)]) (H2 := [.box [lsv (encI .u8) 1 x0.I_, lsv (encI .u8) 1 x0.F_, .int .i64 x0.W_, .int .i64 x0.C_], .box [lsv (encI .u8) 1 x1.I_, lsv (encI .u8) 1 x1.F_, .int .i64 x1.W_, .int .i64 x1.C_]]) (by kernel_rfl) ?_
      refine RJ.caseB 19 (b := y24) (by kernel_rfl) (fun hb27 => ?_) (fun hb27 => ?_)
      · have h28 := condT hb27 h26
        refine RJ.seg 7 [2, 3, 4, 26] (L2 := [(2, .ptr 0 0), (3, .ptr 1 0), (4, .bool false), (26, .bool (decide (x0.W_ = x1.W_)))]) (H2 := [.box [lsv (encI .u8) 1 x0.I_, lsv (encI .u8) 1 x0.F_, .int .i64 x0.W_, .int .i64 x0.C_], .box [lsv (encI .u8) 1 x1.I_, lsv (encI .u8) 1 x1.F_, .int .i64 x1.W_, .int .i64 x1.C_]]) (by kernel_rfl) ?_
        refine RJ.caseB 26 (b := (decide (x0.W_ = x1.W_))) (by kernel_rfl) (fun hb30 => ?_) (fun hb30 => ?_)
        · have h31 := condT hb30 h28
          refine RJ.seg 7 [4] (L2 := [(4, .bool (decide (x0.C_ = x1.C_)))]) (H2 := [.box [lsv (encI .u8) 1 x0.I_, lsv (encI .u8) 1 x0.F_, .int .i64 x0.W_, .int .i64 x0.C_], .box [lsv (encI .u8) 1 x1.I_, lsv (encI .u8) 1 x1.F_, .int .i64 x1.W_, .int .i64 x1.C_]]) (by kernel_rfl) ?_
          refine RJ.end (by kernel_rfl) ?_
          obtain rfl := Option.some.inj h31
          refine PJ.wk (Wk.sel (L2 := [(4, .bool (decide (x0.C_ = x1.C_)))]) (H2 := []) 0 (by rw [hFH]; rfl) hFD [] (by kernel_rfl) (by kernel_rfl) (by decide) (by kernel_rfl) (by kernel_rfl) (by kernel_rfl) (by kernel_rfl)) ?_
          exact PJ.cutN [4] (by kernel_rfl) (by kernel_rfl)
        · have h32 := condF hb30 h28
          refine RJ.seg 7 [4] (L2 := [(4, .bool false)]) (H2 := [.box [lsv (encI .u8) 1 x0.I_, lsv (encI .u8) 1 x0.F_, .int .i64 x0.W_, .int .i64 x0.C_], .box [lsv (encI .u8) 1 x1.I_, lsv (encI .u8) 1 x1.F_, .int .i64 x1.W_, .int .i64 x1.C_]]) (by kernel_rfl) ?_
          refine RJ.end (by kernel_rfl) ?_
          obtain rfl := Option.some.inj h32
          refine PJ.wk (Wk.sel (L2 := [(4, .bool false)]) (H2 := []) 0 (by rw [hFH]; rfl) hFD [] (by kernel_rfl) (by kernel_rfl) (by decide) (by kernel_rfl) (by kernel_rfl) (by kernel_rfl) (by kernel_rfl)) ?_
          exact PJ.cutN [4] (by kernel_rfl) (by kernel_rfl)
      · have h29 := condF hb27 h26
        refine RJ.seg 14 [4] (L2 := [(4, .bool false)]) (H2 := [.box [lsv (encI .u8) 1 x0.I_, lsv (encI .u8) 1 x0.F_, .int .i64 x0.W_, .int .i64 x0.C_], .box [lsv (encI .u8) 1 x1.I_, lsv (encI .u8) 1 x1.F_, .int .i64 x1.W_, .int .i64 x1.C_]]) (by kernel_rfl) ?_
        refine RJ.end (by kernel_rfl) ?_
        obtain rfl := Option.some.inj h29
        refine PJ.wk (Wk.sel (L2 := [(4, .bool false)]) (H2 := []) 0 (by rw [hFH]; rfl) hFD [] (by kernel_rfl) (by kernel_rfl) (by decide) (by kernel_rfl) (by kernel_rfl) (by kernel_rfl) (by kernel_rfl)) ?_
        exact PJ.cutN [4] (by kernel_rfl) (by kernel_rfl)
    · have h23 := condF hb21 hy18
      refine RJ.seg 21 [4] (L2 := [(4, .bool false)]) (H2 := [.box [lsv (encI .u8) 1 x0.I_, lsv (encI .u8) 1 x0.F_, .int .i64 x0.W_, .int .i64 x0.C_], .box [lsv (encI .u8) 1 x1.I_, lsv (encI .u8) 1 x1.F_, .int .i64 x1.W_, .int .i64 x1.C_]]) (by kernel_rfl) ?_
      refine RJ.end (by kernel_rfl) ?_
      obtain rfl := Option.some.inj h23
      refine PJ.wk (Wk.sel (L2 := [(4, .bool false)]) (H2 := []) 0 (by rw [hFH]; rfl) hFD [] (by kernel_rfl) (by kernel_rfl) (by decide) (by kernel_rfl) (by kernel_rfl) (by kernel_rfl) (by kernel_rfl)) ?_
      exact PJ.cutN [4] (by kernel_rfl) (by kernel_rfl)
  · refine K.ret (by kernel_rfl) ?_
    obtain rfl := Option.some.inj h20
    exact K.ret0 (.inr rfl) hFn hFH hFD (by kernel_rfl) (by kernel_rfl) (by kernel_rfl)

def slices_Equal (x0 : List Int) (x1 : List Int) : Option (Bool) :=
  (bif (decide (¬ (x0.length : Int) = (x1.length : Int))) then (some false) else (Option.bind (loopN (fun (s51 : Int) => (bif (decide (s51 < (x0.length : Int))) then (bif inR s51 x0.length then (bif inR s51 x1.length then (bif (decide (¬ (nth x0 s51) = (nth x1 s51))) then (some (.inr (.inr false))) else (some (.inl (IntKind.wrap .i64 (s51 + 1))))) else none) else none) else (some (.inr (.inl ()))))) big 0) (joinX fun (s46 : Unit) => (some true))))
theorem slices_Equal_ok {x0 : List Int} {x1 : List Int} {r : Bool} (h : slices_Equal x0 x1 = some r) : SC Try.prog 32 [lsv (encI .u8) 1 x0, lsv (encI .u8) 1 x1] [] (.bool r) [] := by
  refine K.fn (fn := Try.f32) (by kernel_rfl) (by kernel_rfl) (by kernel_rfl) (by kernel_rfl) (by kernel_rfl) (fun F hFn hFH hFD => ?_)
  unfold slices_Equal at h
  refine K.seq (by kernel_rfl) ?_
  refine K.region (by kernel_rfl) ?_
  refine RJ.seg 1 [0, 1, 4] (L2 := [(0, lsv (encI .u8) 1 x0), (1, lsv (encI .u8) 1 x1), (4, .bool false)]) (H2 := []) (by kernel_rfl) ?_
  refine RJ.end (by kernel_rfl) ?_
  refine PJ.next ?_
  refine K.seq (by kernel_rfl) ?_
  refine K.seq (by kernel_rfl) ?_
  refine K.region (by kernel_rfl) ?_
  refine RJ.seg 5 [0, 1, 4, 10] (L2 := [(0, lsv (encI .u8) 1 x0), (1, lsv (encI .u8) 1 x1), (4, .bool false), (10, .bool ((decide (¬ (x0.length : Int) = (x1.length : Int)))))]) (H2 := []) (by kernel_rfl) ?_
  refine RJ.end (by kernel_rfl) ?_
  refine PJ.next ?_
  refine J.caseB 10 (b := (decide (¬ (x0.length : Int) = (x1.length : Int)))) (by kernel_rfl) (fun hb1 => ?_) (fun hb1 => ?_)
  · have h2 := condT hb1 h
    refine K.condT (by kernel_rfl) ?_
    refine K.seq (by kernel_rfl) ?_
    refine K.region (by kernel_rfl) ?_
    refine RJ.seg 1 [0, 1, 4] (L2 := [(0, lsv (encI .u8) 1 x0), (1, lsv (encI .u8) 1 x1), (4, .bool false)]) (H2 := []) (by kernel_rfl) ?_
    refine RJ.end (by kernel_rfl) ?_
    refine PJ.next ?_
    refine K.ret (by kernel_rfl) ?_
    refine PJ.passRet ?_
    obtain rfl := Option.some.inj h2
    exact K.ret0 (.inr rfl) hFn hFH hFD (by kernel_rfl) (by kernel_rfl) (by kernel_rfl)
  · have h3 := condF hb1 h
    refine K.condF (by kernel_rfl) ?_
    refine K.skip (by kernel_rfl) ?_
    refine PJ.next ?_
    obtain ⟨y47, hy48, h49⟩ := bindS h3
    refine K.cutX (by kernel_rfl) (fun (s46 : Unit) => ([(4, .bool false)], [])) y47 ?_ (fun s46 hs => ?_)
    · refine K.seq (by kernel_rfl) ?_
      refine K.region (by kernel_rfl) ?_
      refine RJ.seg 3 [0, 1, 4, 12, 13] (L2 := [(0, lsv (encI .u8) 1 x0), (1, lsv (encI .u8) 1 x1), (4, .bool false), (12, .int .i64 (x0.length : Int)), (13, .int .i64 0)]) (H2 := []) (by kernel_rfl) ?_
      refine RJ.end (by kernel_rfl) ?_
      refine PJ.next ?_
      refine K.block 0 (by kernel_rfl) ?_
      refine K.loop (by kernel_rfl) (fun (s51 : Int) => ([(0, lsv (encI .u8) 1 x0), (1, lsv (encI .u8) 1 x1), (4, .bool false), (12, .int .i64 (x0.length : Int)), (13, .int .i64 s51)], [])) hy48 [0, 1, 4, 12, 13] (by kernel_rfl) (by kernel_rfl) (fun s51 x79 hs78 => ?_)
      refine K.seq (by kernel_rfl) ?_
      refine K.region (by kernel_rfl) ?_
      refine RJ.seg 1 [0, 1, 4, 12, 13, 14] (L2 := [(0, lsv (encI .u8) 1 x0), (1, lsv (encI .u8) 1 x1), (4, .bool false), (12, .int .i64 (x0.length : Int)), (13, .int .i64 s51), (14, .bool ((decide (s51 < (x0.length : Int)))))]) (H2 := []) (by kernel_rfl) ?_
      refine RJ.end (by kernel_rfl) ?_
      refine PJ.next ?_
      refine K.seq (by kernel_rfl) ?_
      refine J.caseB 14 (b := (decide (s51 < (x0.length : Int)))) (by kernel_rfl) (fun hb80 => ?_) (fun hb80 => ?_)
      · have h81 := condT hb80 hs78
        refine K.condT (by kernel_rfl) ?_
        refine K.skip (by kernel_rfl) ?_
        refine PJ.next ?_
        refine K.seq (by kernel_rfl) ?_
        refine K.block 1 (by kernel_rfl) ?_
        refine K.seq (by kernel_rfl) ?_
        refine K.region (by kernel_rfl) ?_
        refine RJ.seg 2 [0, 1, 4, 5, 12, 13] (L2 := [(0, lsv (encI .u8) 1 x0), (1, lsv (encI .u8) 1 x1), (4, .bool false), (5, .int .i64 s51), (12, .int .i64 (x0.length : Int)), (13, .int .i64 s51)]) (H2 := []) (by kernel_rfl) ?_
        refine RJ.end (by kernel_rfl) ?_
        refine PJ.next ?_
        refine K.seq (by kernel_rfl) ?_
        refine J.keep [0, 1, 4, 5, 12, 13] (L2 := [(0, lsv (encI .u8) 1 x0), (1, lsv (encI .u8) 1 x1), (4, .bool false), (5, .int .i64 s51), (12, .int .i64 (x0.length : Int)), (13, .int .i64 s51)]) (by kernel_rfl) ?_
        refine K.draw (by kernel_rfl) (by kernel_rfl) (by kernel_rfl) (H2 := []) (by kernel_rfl) (n := 0) (by kernel_rfl) ?_
        refine RJ.segD 2 (tr2 := [([], []), ([], [])]) (L2 := [(17, .int .i64 s51), (16, lsv (encI .u8) 1 x0), (0, lsv (encI .u8) 1 x0), (1, lsv (encI .u8) 1 x1), (4, .bool false), (5, .int .i64 s51), (12, .int .i64 (x0.length : Int)), (13, .int .i64 s51)]) (H2 := []) (by kernel_rfl) ?_
        obtain ⟨hm, h83⟩ := asrt h81
        refine RJ.rel (d := (some 18)) (ef := ⟨.ep (((x0.flatMap (encI .u8)).drop ((s51 : Int).toNat * 1)).take 1), [], []⟩) (ef' := ⟨.ep ((encI .u8) (nth x0 s51)), [], []⟩) (c := inR s51 x0.length) (tr2 := [([], []), ([], []), ([], [])]) (H2 := []) (by kernel_rfl) hm (fun hc => N.idx (encI_len .u8) hc) (by kernel_rfl) ?_
        refine RJ.segD 3 (tr2 := [([], []), ([], []), ([], []), ([], []), ([], []), ([], [])]) (L2 := [(21, .int .i64 s51), (20, lsv (encI .u8) 1 x1), (19, .int .u8 (nth x0 s51)), (18, .ep [.int .u8 (nth x0 s51)]), (17, .int .i64 s51), (16, lsv (encI .u8) 1 x0), (0, lsv (encI .u8) 1 x0), (1, lsv (encI .u8) 1 x1), (4, .bool false), (5, .int .i64 s51), (12, .int .i64 (x0.length : Int)), (13, .int .i64 s51)]) (H2 := []) (by kernel_rfl) ?_
        obtain ⟨hm, h84⟩ := asrt h83
        refine RJ.rel (d := (some 22)) (ef := ⟨.ep (((x1.flatMap (encI .u8)).drop ((s51 : Int).toNat * 1)).take 1), [], []⟩) (ef' := ⟨.ep ((encI .u8) (nth x1 s51)), [], []⟩) (c := inR s51 x1.length) (tr2 := [([], []), ([], []), ([], []), ([], []), ([], []), ([], []), ([], [])]) (H2 := []) (by kernel_rfl) hm (fun hc => N.idx (encI_len .u8) hc) (by kernel_rfl) ?_
        refine RJ.segD 2 (tr2 := [([], []), ([], []), ([], []), ([], []), ([], []), ([], []), ([], []), ([], []), ([], [])]) (L2 := [(24, .bool ((decide (¬ (nth x0 s51) = (nth x1 s51))))), (23, .int .u8 (nth x1 s51)), (22, .ep [.int .u8 (nth x1 s51)]), (21, .int .i64 s51), (20, lsv (encI .u8) 1 x1), (19, .int .u8 (nth x0 s51)), (18, .ep [.int .u8 (nth x0 s51)]), (17, .int .i64 s51), (16, lsv (encI .u8) 1 x0), (0, lsv (encI .u8) 1 x0), (1, lsv (encI .u8) 1 x1), (4, .bool false), (5, .int .i64 s51), (12, .int .i64 (x0.length : Int)), (13, .int .i64 s51)]) (H2 := []) (by kernel_rfl) ?_
        refine RJ.end (by kernel_rfl) ?_
        refine PJ.next ?_
        refine J.caseB 24 (b := (decide (¬ (nth x0 s51) = (nth x1 s51)))) (by kernel_rfl) (fun hb85 => ?_) (fun hb85 => ?_)
        · have h86 := condT hb85 h84
          refine K.condT (by kernel_rfl) ?_
          refine K.seq (by kernel_rfl) ?_
          refine K.region (by kernel_rfl) ?_
          refine RJ.seg 1 [0, 1, 4, 12, 13] (L2 := [(0, lsv (encI .u8) 1 x0), (1, lsv (encI .u8) 1 x1), (4, .bool false), (12, .int .i64 (x0.length : Int)), (13, .int .i64 s51)]) (H2 := []) (by kernel_rfl) ?_
          refine RJ.end (by kernel_rfl) ?_
          refine PJ.next ?_
          refine K.ret (by kernel_rfl) ?_
          refine PJ.blockRet ?_
          refine PJ.passRet ?_
          obtain rfl := Option.some.inj h86
          refine PJ.loopOut (fun e => nomatch e) (fun he90 => ?_)
          have h88 := congrArg some he90
          refine PJ.blockRet ?_
          obtain rfl := Option.some.inj h88
          have h89 := joinX_inr h49
          refine PJ.cutXr (fun e => nomatch e) ?_
          obtain rfl := Option.some.inj h89
          exact K.ret0 (.inr rfl) hFn hFH hFD (by kernel_rfl) (by kernel_rfl) (by kernel_rfl)
        · have h87 := condF hb85 h84
          refine K.condF (by kernel_rfl) ?_
          refine K.skip (by kernel_rfl) ?_
          refine PJ.blockNormal ?_
          refine PJ.next ?_
          refine K.region (by kernel_rfl) ?_
          refine RJ.seg 2 [0, 1, 4, 12, 13] (L2 := [(0, lsv (encI .u8) 1 x0), (1, lsv (encI .u8) 1 x1), (4, .bool false), (12, .int .i64 (x0.length : Int)), (13, .int .i64 (IntKind.wrap .i64 (s51 + 1)))]) (H2 := []) (by kernel_rfl) ?_
          refine RJ.end (by kernel_rfl) ?_
          obtain rfl := Option.some.inj h87
          exact PJ.loopNext [0, 1, 4, 12, 13] (by kernel_rfl) (by kernel_rfl)
      · have h82 := condF hb80 hs78
        refine K.condF (by kernel_rfl) ?_
        refine K.exit 0 (by kernel_rfl) ?_
        refine PJ.passExit ?_
        obtain rfl := Option.some.inj h82
        refine PJ.loopOut (fun e => nomatch e) (fun he92 => ?_)
        have h91 := congrArg some he92
        refine PJ.blockOut ?_
        obtain rfl := Option.some.inj h91
        exact PJ.cutXl [4] (by kernel_rfl) (by kernel_rfl)
    · subst hs
      have h50 := joinX_inl h49
      refine K.seq (by kernel_rfl) ?_
      refine K.region (by kernel_rfl) ?_
      refine RJ.seg 1 [4] (L2 := [(4, .bool true)]) (H2 := []) (by kernel_rfl) ?_
      refine RJ.end (by kernel_rfl) ?_
      refine PJ.next ?_
      refine K.ret (by kernel_rfl) ?_
      obtain rfl := Option.some.inj h50
      exact K.ret0 (.inr rfl) hFn hFH hFD (by kernel_rfl) (by kernel_rfl) (by kernel_rfl)

def oper_Same (x0 : St23) (x1 : St23) : Option (Bool) :=
  (Option.bind (Option.bind (slices_Equal x0.I_ x1.I_) fun y21 => (bif y21 then (Option.bind (slices_Equal x0.F_ x1.F_) fun y27 => (bif y27 then (bif (decide (x0.W_ = x1.W_)) then (some (decide (x0.C_ = x1.C_))) else (some false)) else (some false))) else (some false))) fun (s16 : Bool) => (some s16))
theorem oper_Same_ok {x0 : St23} {x1 : St23} {r : Bool} (h : oper_Same x0 x1 = some r) : SC Try.prog 17 [.agg [lsv (encI .u8) 1 x0.I_, lsv (encI .u8) 1 x0.F_, .int .i64 x0.W_, .int .i64 x0.C_], .agg [lsv (encI .u8) 1 x1.I_, lsv (encI .u8) 1 x1.F_, .int .i64 x1.W_, .int .i64 x1.C_]] [] (.bool r) [] := by
  refine K.fn (fn := Try.f17) (by kernel_rfl) (by kernel_rfl) (by kernel_rfl) (by kernel_rfl) (by kernel_rfl) (fun F hFn hFH hFD => ?_)
  unfold oper_Same at h
  refine K.seq (by kernel_rfl) ?_
  refine K.region (by kernel_rfl) ?_
  refine RJ.seg 3 [2, 3, 4] (L2 := [(2, .ptr 0 0), (3, .ptr 1 0), (4, .bool false)]) (H2 := [.box [lsv (encI .u8) 1 x0.I_, lsv (encI .u8) 1 x0.F_, .int .i64 x0.W_, .int .i64 x0.C_], .box [lsv (encI .u8) 1 x1.I_, lsv (encI .u8) 1 x1.F_, .int .i64 x1.W_, .int .i64 x1.C_]]) (by kernel_rfl) ?_
  refine RJ.end (by kernel_rfl) ?_
  refine PJ.next ?_
  obtain ⟨s16, hy18, h20⟩ := bindS h
  refine K.cutN (by kernel_rfl) (fun (s16 : Bool) => ([(4, .bool s16)], [])) s16 ?_ ?_
  · refine K.region (by kernel_rfl) ?_
    refine RJ.seg 4 [2, 3, 4, 6, 8] (L2 := [(2, .ptr 0 0), (3, .ptr 1 0), (4, .bool false), (6, lsv (encI .u8) 1 x0.I_), (8, lsv (encI .u8) 1 x1.I_)]) (H2 := [.box [lsv (encI .u8) 1 x0.I_, lsv (encI .u8) 1 x0.F_, .int .i64 x0.W_, .int .i64 x0.C_], .box [lsv (encI .u8) 1 x1.I_, lsv (encI .u8) 1 x1.F_, .int .i64 x1.W_, .int .i64 x1.C_]]) (by kernel_rfl) ?_
    obtain ⟨y21, hy22, h23⟩ := bindS hy18
    refine RJ.call0 (d := (some 9)) (f := 32) (args := [lsv (encI .u8) 1 x0.I_, lsv (encI .u8) 1 x1.I_]) (v := .bool y21) (tr2 := []) (by kernel_rfl) (by kernel_rfl) (.cons (Le.refl _) (.cons (Le.refl _) .nil)) (slices_Equal_ok hy22) (by kernel_rfl) ?_
    refine RJ.seg 1 [2, 3, 4, 10] (L2 := [(2, .ptr 0 0), (3, .ptr 1 0), (4, .bool false), (10, .bool y21)]) (H2 := [.box [lsv (encI .u8) 1 x0.I_, lsv (encI .u8) 1 x0.F_, .int .i64 x0.W_, .int .i64 x0.C_], .box [lsv (encI .u8) 1 x1.I_, lsv (encI .u8) 1 x1.F_, .int .i64 x1.W_, .int .i64 x1.C_]]) (by kernel_rfl) ?_
    refine RJ.caseB 10 (b := y21) (by kernel_rfl) (fun hb24 => ?_) (fun hb24 => ?_)
    · have h25 := condT hb24 h23
      refine RJ.seg 4 [2, 3, 4, 10, 12, 14] (L2 := [(2, .ptr 0 0), (3, .ptr 1 0), (4, .bool false), (10, .bool true), (12, lsv (encI .u8) 1 x0.F_), (14, lsv (encI .u8) 1 x1.F_)]) (H2 := [.box [lsv (encI .u8) 1 x0.I_, lsv (encI .u8) 1 x0.F_, .int .i64 x0.W_, .int .i64 x0.C_], .box [lsv (encI .u8) 1 x1.I_, lsv (encI .u8) 1 x1.F_, .int .i64 x1.W_, .int .i64 x1.C_]]) (by kernel_rfl) ?_
      obtain ⟨y27, hy28, h29⟩ := bindS h25
      refine RJ.call0 (d := (some 15)) (f := 32) (args := [lsv (encI .u8) 1 x0.F_, lsv (encI .u8) 1 x1.F_]) (v := .bool y27) (tr2 := []) (by kernel_rfl) (by kernel_rfl) (.cons (Le.refl _) (.cons (Le.refl _) .nil)) (slices_Equal_ok hy28) (by kernel_rfl) ?_
      refine RJ.seg 2 [2, 3, 4, 17] (L2 := [(2, .ptr 0 0), (3, .ptr 1 0), (4, .bool false), (17, .bool y27)]) (H2 := [.box [lsv (encI .u8) 1 x0.I_, lsv (encI .u8) 1 x0.F_, .int .i64 x0.W_, .int .i64 x0.C_], .box [lsv (encI .u8) 1 x1.I_, lsv (encI .u8) 1 x1.F_, .int .i64 x1.W_, .int .i64 x1.C_]]) (by kernel_rfl) ?_
      refine RJ.caseB 17 (b := y27) (by kernel_rfl) (fun hb30 => ?_) (fun hb30 => ?_)
      · have h31 := condT hb30 h29
        refine RJ.seg 7 [2, 3, 4, 24] (L2 := [(2, .ptr 0 0), (3, .ptr 1 0), (4, .bool false), (24, .bool (decide (x0.W_ = x1.W_)))]) (H2 := [.box [lsv (encI .u8) 1 x0.I_, lsv (encI .u8) 1 x0.F_, .int .i64 x0.W_, .int .i64 x0.C_], .box [lsv (encI .u8) 1 x1.I_, lsv (encI .u8) 1 x1.F_, .int .i64 x1.W_, .int .i64 x1.C_]]) (by kernel_rfl) ?_
        refine RJ.caseB 24 (b := (decide (x0.W_ = x1.W_))) (by kernel_rfl) (fun hb33 => ?_) (fun hb33 => ?_)
        · have h34 := condT hb33 h31
          refine RJ.seg 7 [4] (L2 := [(4, .bool (decide (x0.C_ = x1.C_)))]) (H2 := [.box [lsv (encI .u8) 1 x0.I_, lsv (encI .u8) 1 x0.F_, .int .i64 x0.W_, .int .i64 x0.C_], .box [lsv (encI .u8) 1 x1.I_, lsv (encI .u8) 1 x1.F_, .int .i64 x1.W_, .int .i64 x1.C_]]) (by kernel_rfl) ?_
          refine RJ.end (by kernel_rfl) ?_
          obtain rfl := Option.some.inj h34
          refine PJ.wk (Wk.sel (L2 := [(4, .bool (decide (x0.C_ = x1.C_)))]) (H2 := []) 0 (by rw [hFH]; rfl) hFD [] (by kernel_rfl) (by kernel_rfl) (by decide) (by kernel_rfl) (by kernel_rfl) (by kernel_rfl) (by kernel_rfl)) ?_
          exact PJ.cutN [4] (by kernel_rfl) (by kernel_rfl)
        · have h35 := condF hb33 h31
          refine RJ.seg 7 [4] (L2 := [(4, .bool false)]) (H2 := [.box [lsv (encI .u8) 1 x0.I_, lsv (encI .u8) 1 x0.F_, .int .i64 x0.W_, .int .i64 x0.C_], .box [lsv (encI .u8) 1 x1.I_, lsv (encI .u8) 1 x1.F_, .int .i64 x1.W_, .int .i64 x1.C_]]) (by kernel_rfl) ?_
          refine RJ.end (by kernel_rfl) ?_
          obtain rfl := Option.some.inj h35
          refine PJ.wk (Wk.sel (L2 := [(4, .bool false)]) (H2 := []) 0 (by rw [hFH]; rfl) hFD [] (by kernel_rfl) (by kernel_rfl) (by decide) (by kernel_rfl) (by kernel_rfl) (by kernel_rfl) (by kernel_rfl)) ?_
          exact PJ.cutN [4] (by kernel_rfl) (by kernel_rfl)
      · have h32 := condF hb30 h29
        refine RJ.seg 14 [4] (L2 := [(4, .bool false)]) (H2 := [.box [lsv (encI .u8) 1 x0.I_, lsv (encI .u8) 1 x0.F_, .int .i64 x0.W_, .int .i64 x0.C_], .box [lsv (encI .u8) 1 x1.I_, lsv (encI .u8) 1 x1.F_, .int .i64 x1.W_, .int .i64 x1.C_]]) (by kernel_rfl) ?_
        refine RJ.end (by kernel_rfl) ?_
        obtain rfl := Option.some.inj h32
        refine PJ.wk (Wk.sel (L2 := [(4, .bool false)]) (H2 := []) 0 (by rw [hFH]; rfl) hFD [] (by kernel_rfl) (by kernel_rfl) (by decide) (by kernel_rfl) (by kernel_rfl) (by kernel_rfl) (by kernel_rfl)) ?_
        exact PJ.cutN [4] (by kernel_rfl) (by kernel_rfl)
    · have h26 := condF hb24 h23
      refine RJ.seg 21 [4] (L2 := [(4, .bool false)]) (H2 := [.box [lsv (encI .u8) 1 x0.I_, lsv (encI .u8) 1 x0.F_, .int .i64 x0.W_, .int .i64 x0.C_], .box [lsv (encI .u8) 1 x1.I_, lsv (encI .u8) 1 x1.F_, .int .i64 x1.W_, .int .i64 x1.C_]]) (by kernel_rfl) ?_
      refine RJ.end (by kernel_rfl) ?_
      obtain rfl := Option.some.inj h26
      refine PJ.wk (Wk.sel (L2 := [(4, .bool false)]) (H2 := []) 0 (by rw [hFH]; rfl) hFD [] (by kernel_rfl) (by kernel_rfl) (by decide) (by kernel_rfl) (by kernel_rfl) (by kernel_rfl) (by kernel_rfl)) ?_
      exact PJ.cutN [4] (by kernel_rfl) (by kernel_rfl)
  · refine K.ret (by kernel_rfl) ?_
    obtain rfl := Option.some.inj h20
    exact K.ret0 (.inr rfl) hFn hFH hFD (by kernel_rfl) (by kernel_rfl) (by kernel_rfl)

def exergueref07_number (x0 : Int) : Option (List Int) :=
  (Option.bind (loopN (fun (s27 : Int × (List Int)) => (bif (decide (s27.1 > 0)) then (bif room ((([(IntKind.wrap .u8 (Int.tmod s27.1 10))] : List Int)).length + s27.2.length) then (some (.inl ((IntKind.wrap .i64 (Int.tdiv s27.1 10)), ((([(IntKind.wrap .u8 (Int.tmod s27.1 10))] : List Int)) ++ s27.2)))) else none) else (some (.inr s27.2)))) big (x0, ([] : List Int))) fun (s22 : (List Int)) => (some s22))
theorem exergueref07_number_ok {x0 : Int} {r : List Int} (h : exergueref07_number x0 = some r) : SC Try.prog 34 [.int .i64 x0] [] (lsv (encI .u8) 1 r) [] := by
  refine K.fn (fn := Try.f34) (by kernel_rfl) (by kernel_rfl) (by kernel_rfl) (by kernel_rfl) (by kernel_rfl) (fun F hFn hFH hFD => ?_)
  unfold exergueref07_number at h
  refine K.seq (by kernel_rfl) ?_
  refine K.region (by kernel_rfl) ?_
  refine RJ.seg 1 [0, 2] (L2 := [(0, .int .i64 x0), (2, .nl)]) (H2 := []) (by kernel_rfl) ?_
  refine RJ.end (by kernel_rfl) ?_
  refine PJ.next ?_
  refine K.seq (by kernel_rfl) ?_
  refine K.region (by kernel_rfl) ?_
  refine RJ.seg 1 [0, 2, 3] (L2 := [(0, .int .i64 x0), (2, .nl), (3, .nl)]) (H2 := []) (by kernel_rfl) ?_
  refine RJ.end (by kernel_rfl) ?_
  refine PJ.next ?_
  obtain ⟨s22, hy24, h26⟩ := bindS h
  refine K.cutN (by kernel_rfl) (fun (s22 : (List Int)) => ([(2, .nl), (3, .vc 0)], [vecL (encI .u8) 1 5 s22])) s22 ?_ ?_
  · refine K.block 0 (by kernel_rfl) ?_
    refine J.wk (Wk.viv 3 1 5 (by kernel_rfl)) ?_
    refine K.loop (by kernel_rfl) (fun (s27 : Int × (List Int)) => ([(0, .int .i64 s27.1), (2, .nl), (3, .vc 0)], [vecL (encI .u8) 1 5 s27.2])) hy24 [0, 2, 3] (by kernel_rfl) (by kernel_rfl) (fun s27 x41 hs40 => ?_)
    refine K.seq (by kernel_rfl) ?_
    refine K.seq (by kernel_rfl) ?_
    refine K.region (by kernel_rfl) ?_
    refine RJ.seg 2 [0, 2, 3, 5] (L2 := [(0, .int .i64 s27.1), (2, .nl), (3, .vc 0), (5, .bool (decide (s27.1 > 0)))]) (H2 := [vecL (encI .u8) 1 5 s27.2]) (by kernel_rfl) ?_
    refine RJ.end (by kernel_rfl) ?_
    refine PJ.next ?_
    refine J.caseB 5 (b := (decide (s27.1 > 0))) (by kernel_rfl) (fun hb42 => ?_) (fun hb42 => ?_)
    · have h43 := condT hb42 hs40
      refine K.condT (by kernel_rfl) ?_
      refine K.skip (by kernel_rfl) ?_
      refine PJ.next ?_
      refine K.block 1 (by kernel_rfl) ?_
      refine K.seq (by kernel_rfl) ?_
      refine K.region (by kernel_rfl) ?_
      refine RJ.seg 5 [0, 2, 3, 9, 10] (L2 := [(0, .int .i64 s27.1), (2, .nl), (3, .vc 0), (9, .vc 1), (10, .vc 0)]) (H2 := [vecL (encI .u8) 1 5 s27.2, vecL (encI .u8) 1 5 (([(IntKind.wrap .u8 (Int.tmod s27.1 10))] : List Int))]) (by kernel_rfl) ?_
      obtain ⟨hm, h45⟩ := asrt h43
      refine RJ.rel (d := (some 11)) (ef := ⟨.vc 2, [1, 0], [(1, .gone), (2, .vec ((([(IntKind.wrap .u8 (Int.tmod s27.1 10))] : List Int)).length + s27.2.length) 1 5 ((([(IntKind.wrap .u8 (Int.tmod s27.1 10))] : List Int)).flatMap (encI .u8) ++ s27.2.flatMap (encI .u8)))]⟩) (ef' := ⟨.vc 2, [1, 0], [(1, .gone), (2, vecL (encI .u8) 1 5 ((([(IntKind.wrap .u8 (Int.tmod s27.1 10))] : List Int)) ++ s27.2))]⟩) (c := room ((([(IntKind.wrap .u8 (Int.tmod s27.1 10))] : List Int)).length + s27.2.length)) (tr2 := []) (H2 := [vecL (encI .u8) 1 5 s27.2, .gone, vecL (encI .u8) 1 5 (((([(IntKind.wrap .u8 (Int.tmod s27.1 10))] : List Int)) ++ s27.2))]) (by kernel_rfl) hm (fun hc => N.app) (by kernel_rfl) ?_
      refine RJ.seg 1 [0, 2, 3] (L2 := [(0, .int .i64 s27.1), (2, .nl), (3, .vc 2)]) (H2 := [vecL (encI .u8) 1 5 s27.2, .gone, vecL (encI .u8) 1 5 (((([(IntKind.wrap .u8 (Int.tmod s27.1 10))] : List Int)) ++ s27.2))]) (by kernel_rfl) ?_
      refine RJ.end (by kernel_rfl) ?_
      refine PJ.next ?_
      refine K.region (by kernel_rfl) ?_
      refine RJ.seg 3 [0, 2, 3] (L2 := [(0, .int .i64 (IntKind.wrap .i64 (Int.tdiv s27.1 10))), (2, .nl), (3, .vc 2)]) (H2 := [vecL (encI .u8) 1 5 s27.2, .gone, vecL (encI .u8) 1 5 (((([(IntKind.wrap .u8 (Int.tmod s27.1 10))] : List Int)) ++ s27.2))]) (by kernel_rfl) ?_
      refine RJ.end (by kernel_rfl) ?_
      refine PJ.blockNormal ?_
      obtain rfl := Option.some.inj h45
      refine PJ.wk (Wk.sel (L2 := [(0, .int .i64 (IntKind.wrap .i64 (Int.tdiv s27.1 10))), (2, .nl), (3, .vc 0)]) (H2 := [vecL (encI .u8) 1 5 (((([(IntKind.wrap .u8 (Int.tmod s27.1 10))] : List Int)) ++ s27.2))]) 0 (by rw [hFH]; rfl) hFD [2] (by kernel_rfl) (by kernel_rfl) (by decide) (by kernel_rfl) (by kernel_rfl) (by kernel_rfl) (by kernel_rfl)) ?_
      exact PJ.loopNext [0, 2, 3] (by kernel_rfl) (by kernel_rfl)
    · have h44 := condF hb42 hs40
      refine K.condF (by kernel_rfl) ?_
      refine K.exit 0 (by kernel_rfl) ?_
      refine PJ.passExit ?_
      obtain rfl := Option.some.inj h44
      refine PJ.loopOut (fun e => nomatch e) (fun he47 => ?_)
      have h46 := congrArg some he47
      refine PJ.blockOut ?_
      obtain rfl := Option.some.inj h46
      exact PJ.cutN [2, 3] (by kernel_rfl) (by kernel_rfl)
  · refine K.seq (by kernel_rfl) ?_
    refine K.region (by kernel_rfl) ?_
    refine RJ.seg 2 [2] (L2 := [(2, .vc 0)]) (H2 := [vecL (encI .u8) 1 5 s22]) (by kernel_rfl) ?_
    refine RJ.end (by kernel_rfl) ?_
    refine PJ.next ?_
    refine K.ret (by kernel_rfl) ?_
    obtain rfl := Option.some.inj h26
    refine PJ.wk (Wk.freeze 0 (n := s22.length) (k := 1) (e := 5) (cs := s22.flatMap (encI .u8)) (by kernel_rfl)) ?_
    exact K.ret0 (.inr rfl) hFn hFH hFD (by kernel_rfl) (by kernel_rfl) (by kernel_rfl)

def exergueref07_Operand (x0 : St23) (x1 : Int) : Option ((List Int) × Bool) :=
  (Option.bind (bif (decide (x1 = 110)) then (bif (decide (x0.W_ > 0)) then (some (.inr (([] : List Int), false))) else (some (.inr (x0.I_, true)))) else (bif (decide (x1 = 105)) then (some (.inr (x0.I_, true))) else (bif (decide (x1 = 118)) then (Option.bind (exergueref07_number (x0.F_.length : Int)) fun y80 => (some (.inr (y80, true)))) else (bif (decide (x1 = 119)) then (Option.bind (exergueref07_number x0.W_) fun y87 => (some (.inr (y87, true)))) else (bif (decide (x1 = 102)) then (Option.bind (exergueref07_Bare x0.F_) fun y94 => (some (.inr (y94, true)))) else (bif (decide (x1 = 116)) then (bif inS 0 x0.W_ x0.F_.length then (Option.bind (exergueref07_Bare (cut x0.F_ 0 x0.W_)) fun y102 => (some (.inr (y102, true)))) else none) else (Option.bind (bif (decide (x1 = 99)) then (some true) else (some (decide (x1 = 101)))) fun (s109 : Bool) => (bif s109 then (Option.bind (exergueref07_number x0.C_) fun y120 => (some (.inr (y120, true)))) else (some (.inl ())))))))))) (joinX fun (s60 : Unit) => (some (([] : List Int), false))))
theorem exergueref07_Operand_ok {x0 : St23} {x1 : Int} {r : (List Int) × Bool} (h : exergueref07_Operand x0 x1 = some r) : SC Try.prog 19 [.agg [lsv (encI .u8) 1 x0.I_, lsv (encI .u8) 1 x0.F_, .int .i64 x0.W_, .int .i64 x0.C_], .int .u8 x1] [] (.tup [lsv (encI .u8) 1 r.1, .bool r.2]) [] := by
  refine K.fn (fn := Try.f19) (by kernel_rfl) (by kernel_rfl) (by kernel_rfl) (by kernel_rfl) (by kernel_rfl) (fun F hFn hFH hFD => ?_)
  unfold exergueref07_Operand at h
  refine K.seq (by kernel_rfl) ?_
  refine K.region (by kernel_rfl) ?_
  refine RJ.seg 3 [1, 2, 4, 5] (L2 := [(1, .int .u8 x1), (2, .ptr 0 0), (4, .nl), (5, .bool false)]) (H2 := [.box [lsv (encI .u8) 1 x0.I_, lsv (encI .u8) 1 x0.F_, .int .i64 x0.W_, .int .i64 x0.C_]]) (by kernel_rfl) ?_
  refine RJ.end (by kernel_rfl) ?_
  refine PJ.next ?_
  obtain ⟨y61, hy62, h63⟩ := bindS h
  refine K.cutX (by kernel_rfl) (fun (s60 : Unit) => ([(4, .nl), (5, .bool false)], [])) y61 ?_ (fun s60 hs => ?_)
  · refine K.seq (by kernel_rfl) ?_
    refine K.region (by kernel_rfl) ?_
    refine RJ.seg 1 [2, 4, 5, 6] (L2 := [(2, .ptr 0 0), (4, .nl), (5, .bool false), (6, .int .u8 x1)]) (H2 := [.box [lsv (encI .u8) 1 x0.I_, lsv (encI .u8) 1 x0.F_, .int .i64 x0.W_, .int .i64 x0.C_]]) (by kernel_rfl) ?_
    refine RJ.end (by kernel_rfl) ?_
    refine PJ.next ?_
    refine K.block 0 (by kernel_rfl) ?_
    refine K.seq (by kernel_rfl) ?_
    refine K.region (by kernel_rfl) ?_
    refine RJ.seg 2 [2, 4, 5, 6, 7] (L2 := [(2, .ptr 0 0), (4, .nl), (5, .bool false), (6, .int .u8 x1), (7, .bool (decide (x1 = 110)))]) (H2 := [.box [lsv (encI .u8) 1 x0.I_, lsv (encI .u8) 1 x0.F_, .int .i64 x0.W_, .int .i64 x0.C_]]) (by kernel_rfl) ?_
    refine RJ.end (by kernel_rfl) ?_
    refine PJ.next ?_
    refine J.caseB 7 (b := (decide (x1 = 110))) (by kernel_rfl) (fun hb65 => ?_) (fun hb65 => ?_)
    · have h66 := condT hb65 hy62
      refine K.condT (by kernel_rfl) ?_
      refine K.seq (by kernel_rfl) ?_
      refine K.seq (by kernel_rfl) ?_
      refine K.region (by kernel_rfl) ?_
      refine RJ.seg 3 [2, 4, 5, 11] (L2 := [(2, .ptr 0 0), (4, .nl), (5, .bool false), (11, .bool (decide (x0.W_ > 0)))]) (H2 := [.box [lsv (encI .u8) 1 x0.I_, lsv (encI .u8) 1 x0.F_, .int .i64 x0.W_, .int .i64 x0.C_]]) (by kernel_rfl) ?_
      refine RJ.end (by kernel_rfl) ?_
      refine PJ.next ?_
      refine J.caseB 11 (b := (decide (x0.W_ > 0))) (by kernel_rfl) (fun hb68 => ?_) (fun hb68 => ?_)
      · have h69 := condT hb68 h66
        refine K.condT (by kernel_rfl) ?_
        refine K.seq (by kernel_rfl) ?_
        refine K.region (by kernel_rfl) ?_
        refine RJ.seg 2 [2, 4, 5] (L2 := [(2, .ptr 0 0), (4, .nl), (5, .bool false)]) (H2 := [.box [lsv (encI .u8) 1 x0.I_, lsv (encI .u8) 1 x0.F_, .int .i64 x0.W_, .int .i64 x0.C_]]) (by kernel_rfl) ?_
        refine RJ.end (by kernel_rfl) ?_
        refine PJ.next ?_
        refine K.ret (by kernel_rfl) ?_
        refine PJ.passRet ?_
        refine PJ.blockRet ?_
        obtain rfl := Option.some.inj h69
        have h71 := joinX_inr h63
        refine PJ.cutXr (fun e => nomatch e) ?_
        obtain rfl := Option.some.inj h71
        refine PJ.res (v1 := .tup [.nl, .bool false]) (Le.tup (.cons (Le.nl _) (.cons (Le.refl _) .nil))) ?_
        exact K.ret0 (.inr rfl) hFn hFH hFD (by kernel_rfl) (by kernel_rfl) (by kernel_rfl)
      · have h70 := condF hb68 h66
        refine K.condF (by kernel_rfl) ?_
        refine K.skip (by kernel_rfl) ?_
        refine PJ.next ?_
        refine K.seq (by kernel_rfl) ?_
        refine K.region (by kernel_rfl) ?_
        refine RJ.seg 4 [4, 5] (L2 := [(4, lsv (encI .u8) 1 x0.I_), (5, .bool true)]) (H2 := [.box [lsv (encI .u8) 1 x0.I_, lsv (encI .u8) 1 x0.F_, .int .i64 x0.W_, .int .i64 x0.C_]]) (by kernel_rfl) ?_
        refine RJ.end (by kernel_rfl) ?_
        refine PJ.next ?_
        refine K.ret (by kernel_rfl) ?_
        refine PJ.blockRet ?_
        obtain rfl := Option.some.inj h70
        have h72 := joinX_inr h63
        refine PJ.cutXr (fun e => nomatch e) ?_
        obtain rfl := Option.some.inj h72
        exact K.ret0 (.inr rfl) hFn hFH hFD (by kernel_rfl) (by kernel_rfl) (by kernel_rfl)
    · have h67 := condF hb65 hy62
      refine K.condF (by kernel_rfl) ?_
      refine K.seq (by kernel_rfl) ?_
      refine K.region (by kernel_rfl) ?_
      refine RJ.seg 2 [2, 4, 5, 6, 14] (L2 := [(2, .ptr 0 0), (4, .nl), (5, .bool false), (6, .int .u8 x1), (14, .bool (decide (x1 = 105)))]) (H2 := [.box [lsv (encI .u8) 1 x0.I_, lsv (encI .u8) 1 x0.F_, .int .i64 x0.W_, .int .i64 x0.C_]]) (by kernel_rfl) ?_
      refine RJ.end (by kernel_rfl) ?_
      refine PJ.next ?_
      refine J.caseB 14 (b := (decide (x1 = 105))) (by kernel_rfl) (fun hb73 => ?_) (fun hb73 => ?_)
      · have h74 := condT hb73 h67
        refine K.condT (by kernel_rfl) ?_
        refine K.seq (by kernel_rfl) ?_
        refine K.region (by kernel_rfl) ?_
        refine RJ.seg 4 [4, 5] (L2 := [(4, lsv (encI .u8) 1 x0.I_), (5, .bool true)]) (H2 := [.box [lsv (encI .u8) 1 x0.I_, lsv (encI .u8) 1 x0.F_, .int .i64 x0.W_, .int .i64 x0.C_]]) (by kernel_rfl) ?_
        refine RJ.end (by kernel_rfl) ?_
        refine PJ.next ?_
        refine K.ret (by kernel_rfl) ?_
        refine PJ.blockRet ?_
        obtain rfl := Option.some.inj h74
        have h76 := joinX_inr h63
        refine PJ.cutXr (fun e => nomatch e) ?_
        obtain rfl := Option.some.inj h76
        exact K.ret0 (.inr rfl) hFn hFH hFD (by kernel_rfl) (by kernel_rfl) (by kernel_rfl)
      · have h75 := condF hb73 h67
        refine K.condF (by kernel_rfl) ?_
        refine K.seq (by kernel_rfl) ?_
        refine K.region (by kernel_rfl) ?_
        refine RJ.seg 2 [2, 4, 5, 6, 18] (L2 := [(2, .ptr 0 0), (4, .nl), (5, .bool false), (6, .int .u8 x1), (18, .bool (decide (x1 = 118)))]) (H2 := [.box [lsv (encI .u8) 1 x0.I_, lsv (encI .u8) 1 x0.F_, .int .i64 x0.W_, .int .i64 x0.C_]]) (by kernel_rfl) ?_
        refine RJ.end (by kernel_rfl) ?_
        refine PJ.next ?_
        refine J.caseB 18 (b := (decide (x1 = 118))) (by kernel_rfl) (fun hb77 => ?_) (fun hb77 => ?_)
        · have h78 := condT hb77 h75
          refine K.condT (by kernel_rfl) ?_
          refine K.seq (by kernel_rfl) ?_
          refine K.region (by kernel_rfl) ?_
          refine RJ.seg 3 [4, 5, 22] (L2 := [(4, .nl), (5, .bool false), (22, .int .i64 (x0.F_.length : Int))]) (H2 := [.box [lsv (encI .u8) 1 x0.I_, lsv (encI .u8) 1 x0.F_, .int .i64 x0.W_, .int .i64 x0.C_]]) (by kernel_rfl) ?_
          obtain ⟨y80, hy81, h82⟩ := bindS h78
          refine RJ.call0 (d := (some 23)) (f := 34) (args := [.int .i64 (x0.F_.length : Int)]) (v := lsv (encI .u8) 1 y80) (tr2 := []) (by kernel_rfl) (by kernel_rfl) (.cons (Le.refl _) .nil) (exergueref07_number_ok hy81) (by kernel_rfl) ?_
          refine RJ.seg 2 [4, 5] (L2 := [(4, lsv (encI .u8) 1 y80), (5, .bool true)]) (H2 := [.box [lsv (encI .u8) 1 x0.I_, lsv (encI .u8) 1 x0.F_, .int .i64 x0.W_, .int .i64 x0.C_]]) (by kernel_rfl) ?_
          refine RJ.end (by kernel_rfl) ?_
          refine PJ.next ?_
          refine K.ret (by kernel_rfl) ?_
          refine PJ.blockRet ?_
          obtain rfl := Option.some.inj h82
          have h83 := joinX_inr h63
          refine PJ.cutXr (fun e => nomatch e) ?_
          obtain rfl := Option.some.inj h83
          exact K.ret0 (.inr rfl) hFn hFH hFD (by kernel_rfl) (by kernel_rfl) (by kernel_rfl)
        · have h79 := condF hb77 h75
          refine K.condF (by kernel_rfl) ?_
          refine K.seq (by kernel_rfl) ?_
          refine K.region (by kernel_rfl) ?_
          refine RJ.seg 2 [2, 4, 5, 6, 24] (L2 := [(2, .ptr 0 0), (4, .nl), (5, .bool false), (6, .int .u8 x1), (24, .bool (decide (x1 = 119)))]) (H2 := [.box [lsv (encI .u8) 1 x0.I_, lsv (encI .u8) 1 x0.F_, .int .i64 x0.W_, .int .i64 x0.C_]]) (by kernel_rfl) ?_
          refine RJ.end (by kernel_rfl) ?_
          refine PJ.next ?_
          refine J.caseB 24 (b := (decide (x1 = 119))) (by kernel_rfl) (fun hb84 => ?_) (fun hb84 => ?_)
          · have h85 := condT hb84 h79
            refine K.condT (by kernel_rfl) ?_
            refine K.seq (by kernel_rfl) ?_
            refine K.region (by kernel_rfl) ?_
            refine RJ.seg 2 [4, 5, 27] (L2 := [(4, .nl), (5, .bool false), (27, .int .i64 x0.W_)]) (H2 := [.box [lsv (encI .u8) 1 x0.I_, lsv (encI .u8) 1 x0.F_, .int .i64 x0.W_, .int .i64 x0.C_]]) (by kernel_rfl) ?_
            obtain ⟨y87, hy88, h89⟩ := bindS h85
            refine RJ.call0 (d := (some 28)) (f := 34) (args := [.int .i64 x0.W_]) (v := lsv (encI .u8) 1 y87) (tr2 := []) (by kernel_rfl) (by kernel_rfl) (.cons (Le.refl _) .nil) (exergueref07_number_ok hy88) (by kernel_rfl) ?_
            refine RJ.seg 2 [4, 5] (L2 := [(4, lsv (encI .u8) 1 y87), (5, .bool true)]) (H2 := [.box [lsv (encI .u8) 1 x0.I_, lsv (encI .u8) 1 x0.F_, .int .i64 x0.W_, .int .i64 x0.C_]]) (by kernel_rfl) ?_
            refine RJ.end (by kernel_rfl) ?_
            refine PJ.next ?_
            refine K.ret (by kernel_rfl) ?_
            refine PJ.blockRet ?_
            obtain rfl := Option.some.inj h89
            have h90 := joinX_inr h63
            refine PJ.cutXr (fun e => nomatch e) ?_
            obtain rfl := Option.some.inj h90
            exact K.ret0 (.inr rfl) hFn hFH hFD (by kernel_rfl) (by kernel_rfl) (by kernel_rfl)
          · have h86 := condF hb84 h79
            refine K.condF (by kernel_rfl) ?_
            refine K.seq (by kernel_rfl) ?_
            refine K.region (by kernel_rfl) ?_
            refine RJ.seg 2 [2, 4, 5, 6, 29] (L2 := [(2, .ptr 0 0), (4, .nl), (5, .bool false), (6, .int .u8 x1), (29, .bool (decide (x1 = 102)))]) (H2 := [.box [lsv (encI .u8) 1 x0.I_, lsv (encI .u8) 1 x0.F_, .int .i64 x0.W_, .int .i64 x0.C_]]) (by kernel_rfl) ?_
            refine RJ.end (by kernel_rfl) ?_
            refine PJ.next ?_
            refine J.caseB 29 (b := (decide (x1 = 102))) (by kernel_rfl) (fun hb91 => ?_) (fun hb91 => ?_)
            · have h92 := condT hb91 h86
              refine K.condT (by kernel_rfl) ?_
              refine K.seq (by kernel_rfl) ?_
              refine K.region (by kernel_rfl) ?_
              refine RJ.seg 2 [4, 5, 32] (L2 := [(4, .nl), (5, .bool false), (32, lsv (encI .u8) 1 x0.F_)]) (H2 := [.box [lsv (encI .u8) 1 x0.I_, lsv (encI .u8) 1 x0.F_, .int .i64 x0.W_, .int .i64 x0.C_]]) (by kernel_rfl) ?_
              obtain ⟨y94, hy95, h96⟩ := bindS h92
              refine RJ.call0 (d := (some 33)) (f := 30) (args := [lsv (encI .u8) 1 x0.F_]) (v := lsv (encI .u8) 1 y94) (tr2 := []) (by kernel_rfl) (by kernel_rfl) (.cons (Le.refl _) .nil) (exergueref07_Bare_ok hy95) (by kernel_rfl) ?_
              refine RJ.seg 2 [4, 5] (L2 := [(4, lsv (encI .u8) 1 y94), (5, .bool true)]) (H2 := [.box [lsv (encI .u8) 1 x0.I_, lsv (encI .u8) 1 x0.F_, .int .i64 x0.W_, .int .i64 x0.C_]]) (by kernel_rfl) ?_
              refine RJ.end (by kernel_rfl) ?_
              refine PJ.next ?_
              refine K.ret (by kernel_rfl) ?_
              refine PJ.blockRet ?_
              obtain rfl := Option.some.inj h96
              have h97 := joinX_inr h63
              refine PJ.cutXr (fun e => nomatch e) ?_
              obtain rfl := Option.some.inj h97
              exact K.ret0 (.inr rfl) hFn hFH hFD (by kernel_rfl) (by kernel_rfl) (by kernel_rfl)
            · have h93 := condF hb91 h86
              refine K.condF (by kernel_rfl) ?_
              refine K.seq (by kernel_rfl) ?_
              refine K.region (by kernel_rfl) ?_
              refine RJ.seg 2 [2, 4, 5, 6, 34] (L2 := [(2, .ptr 0 0), (4, .nl), (5, .bool false), (6, .int .u8 x1), (34, .bool (decide (x1 = 116)))]) (H2 := [.box [lsv (encI .u8) 1 x0.I_, lsv (encI .u8) 1 x0.F_, .int .i64 x0.W_, .int .i64 x0.C_]]) (by kernel_rfl) ?_
              refine RJ.end (by kernel_rfl) ?_
              refine PJ.next ?_
              refine J.caseB 34 (b := (decide (x1 = 116))) (by kernel_rfl) (fun hb98 => ?_) (fun hb98 => ?_)
              · have h99 := condT hb98 h93
                refine K.condT (by kernel_rfl) ?_
                refine K.seq (by kernel_rfl) ?_
                refine K.region (by kernel_rfl) ?_
                refine RJ.seg 4 [4, 5, 37, 39] (L2 := [(4, .nl), (5, .bool false), (37, lsv (encI .u8) 1 x0.F_), (39, .int .i64 x0.W_)]) (H2 := [.box [lsv (encI .u8) 1 x0.I_, lsv (encI .u8) 1 x0.F_, .int .i64 x0.W_, .int .i64 x0.C_]]) (by kernel_rfl) ?_
                obtain ⟨hm, h101⟩ := asrt h99
                refine RJ.rel (d := (some 40)) (ef := ⟨.lst ((x0.W_ : Int).toNat - (0 : Int).toNat) 1 (((x0.F_.flatMap (encI .u8)).take ((x0.W_ : Int).toNat * 1)).drop ((0 : Int).toNat * 1)), [], []⟩) (ef' := ⟨.lst (cut x0.F_ 0 x0.W_).length 1 ((cut x0.F_ 0 x0.W_).flatMap (encI .u8)), [], []⟩) (c := inS 0 x0.W_ x0.F_.length) (tr2 := []) (H2 := [.box [lsv (encI .u8) 1 x0.I_, lsv (encI .u8) 1 x0.F_, .int .i64 x0.W_, .int .i64 x0.C_]]) (by kernel_rfl) hm (fun hc => N.slice (encI_len .u8) hc) (by kernel_rfl) ?_
                obtain ⟨y102, hy103, h104⟩ := bindS h101
                refine RJ.call0 (d := (some 41)) (f := 30) (args := [lsv (encI .u8) 1 (cut x0.F_ 0 x0.W_)]) (v := lsv (encI .u8) 1 y102) (tr2 := []) (by kernel_rfl) (by kernel_rfl) (.cons (Le.refl _) .nil) (exergueref07_Bare_ok hy103) (by kernel_rfl) ?_
                refine RJ.seg 2 [4, 5] (L2 := [(4, lsv (encI .u8) 1 y102), (5, .bool true)]) (H2 := [.box [lsv (encI .u8) 1 x0.I_, lsv (encI .u8) 1 x0.F_, .int .i64 x0.W_, .int .i64 x0.C_]]) (by kernel_rfl) ?_
                refine RJ.end (by kernel_rfl) ?_
                refine PJ.next ?_
                refine K.ret (by kernel_rfl) ?_
                refine PJ.blockRet ?_
                obtain rfl := Option.some.inj h104
                have h105 := joinX_inr h63
                refine PJ.cutXr (fun e => nomatch e) ?_
                obtain rfl := Option.some.inj h105
                exact K.ret0 (.inr rfl) hFn hFH hFD (by kernel_rfl) (by kernel_rfl) (by kernel_rfl)
              · have h100 := condF hb98 h93
                refine K.condF (by kernel_rfl) ?_
                obtain ⟨s109, hy111, h113⟩ := bindS h100
                refine K.cutN (by kernel_rfl) (fun (s109 : Bool) => ([(2, .ptr 0 0), (4, .nl), (5, .bool false), (42, .bool s109)], [.box [lsv (encI .u8) 1 x0.I_, lsv (encI .u8) 1 x0.F_, .int .i64 x0.W_, .int .i64 x0.C_]])) s109 ?_ ?_
                · refine K.seq (by kernel_rfl) ?_
                  refine K.region (by kernel_rfl) ?_
                  refine RJ.seg 2 [2, 4, 5, 6, 42] (L2 := [(2, .ptr 0 0), (4, .nl), (5, .bool false), (6, .int .u8 x1), (42, .bool (decide (x1 = 99)))]) (H2 := [.box [lsv (encI .u8) 1 x0.I_, lsv (encI .u8) 1 x0.F_, .int .i64 x0.W_, .int .i64 x0.C_]]) (by kernel_rfl) ?_
                  refine RJ.end (by kernel_rfl) ?_
                  refine PJ.next ?_
                  refine J.caseB 42 (b := (decide (x1 = 99))) (by kernel_rfl) (fun hb114 => ?_) (fun hb114 => ?_)
                  · have h115 := condT hb114 hy111
                    refine K.condT (by kernel_rfl) ?_
                    refine K.skip (by kernel_rfl) ?_
                    obtain rfl := Option.some.inj h115
                    exact PJ.cutN [2, 4, 5, 42] (by kernel_rfl) (by kernel_rfl)
                  · have h116 := condF hb114 hy111
                    refine K.condF (by kernel_rfl) ?_
                    refine K.region (by kernel_rfl) ?_
                    refine RJ.seg 2 [2, 4, 5, 42] (L2 := [(2, .ptr 0 0), (4, .nl), (5, .bool false), (42, .bool (decide (x1 = 101)))]) (H2 := [.box [lsv (encI .u8) 1 x0.I_, lsv (encI .u8) 1 x0.F_, .int .i64 x0.W_, .int .i64 x0.C_]]) (by kernel_rfl) ?_
                    refine RJ.end (by kernel_rfl) ?_
                    obtain rfl := Option.some.inj h116
                    exact PJ.cutN [2, 4, 5, 42] (by kernel_rfl) (by kernel_rfl)
                · refine J.caseB 42 (b := s109) (by kernel_rfl) (fun hb117 => ?_) (fun hb117 => ?_)
                  · have h118 := condT hb117 h113
                    refine K.condT (by kernel_rfl) ?_
                    refine K.seq (by kernel_rfl) ?_
                    refine K.region (by kernel_rfl) ?_
                    refine RJ.seg 2 [4, 5, 46] (L2 := [(4, .nl), (5, .bool false), (46, .int .i64 x0.C_)]) (H2 := [.box [lsv (encI .u8) 1 x0.I_, lsv (encI .u8) 1 x0.F_, .int .i64 x0.W_, .int .i64 x0.C_]]) (by kernel_rfl) ?_
                    obtain ⟨y120, hy121, h122⟩ := bindS h118
                    refine RJ.call0 (d := (some 47)) (f := 34) (args := [.int .i64 x0.C_]) (v := lsv (encI .u8) 1 y120) (tr2 := []) (by kernel_rfl) (by kernel_rfl) (.cons (Le.refl _) .nil) (exergueref07_number_ok hy121) (by kernel_rfl) ?_
                    refine RJ.seg 2 [4, 5] (L2 := [(4, lsv (encI .u8) 1 y120), (5, .bool true)]) (H2 := [.box [lsv (encI .u8) 1 x0.I_, lsv (encI .u8) 1 x0.F_, .int .i64 x0.W_, .int .i64 x0.C_]]) (by kernel_rfl) ?_
                    refine RJ.end (by kernel_rfl) ?_
                    refine PJ.next ?_
                    refine K.ret (by kernel_rfl) ?_
                    refine PJ.blockRet ?_
                    obtain rfl := Option.some.inj h122
                    have h123 := joinX_inr h63
                    refine PJ.cutXr (fun e => nomatch e) ?_
                    obtain rfl := Option.some.inj h123
                    exact K.ret0 (.inr rfl) hFn hFH hFD (by kernel_rfl) (by kernel_rfl) (by kernel_rfl)
                  · have h119 := condF hb117 h113
                    refine K.condF (by kernel_rfl) ?_
                    refine K.skip (by kernel_rfl) ?_
                    refine PJ.blockNormal ?_
                    obtain rfl := Option.some.inj h119
                    refine PJ.wk (Wk.sel (L2 := [(4, .nl), (5, .bool false)]) (H2 := []) 0 (by rw [hFH]; rfl) hFD [] (by kernel_rfl) (by kernel_rfl) (by decide) (by kernel_rfl) (by kernel_rfl) (by kernel_rfl) (by kernel_rfl)) ?_
                    exact PJ.cutXl [4, 5] (by kernel_rfl) (by kernel_rfl)
  · subst hs
    have h64 := joinX_inl h63
    refine K.seq (by kernel_rfl) ?_
    refine K.region (by kernel_rfl) ?_
    refine RJ.seg 2 [4, 5] (L2 := [(4, .nl), (5, .bool false)]) (H2 := []) (by kernel_rfl) ?_
    refine RJ.end (by kernel_rfl) ?_
    refine PJ.next ?_
    refine K.ret (by kernel_rfl) ?_
    obtain rfl := Option.some.inj h64
    refine PJ.res (v1 := .tup [.nl, .bool false]) (Le.tup (.cons (Le.nl _) (.cons (Le.refl _) .nil))) ?_
    exact K.ret0 (.inr rfl) hFn hFH hFD (by kernel_rfl) (by kernel_rfl) (by kernel_rfl)

def exerguelaw07_OperTells (x0 : St25) : Option (Bool) :=
  (Option.bind exerguelaw07_shown fun y1 => (Option.bind (Option.bind (Option.bind (exerguelaw07_few x0.Whole_ x0.Part_) fun y50 => (bif (!y50) then (some true) else (Option.bind (exerguelaw07_few x0.O_.I_ x0.O_.F_) fun y56 => (some (!y56))))) fun (s45 : Bool) => (bif s45 then (some (.inr y1)) else (some (.inl ())))) (joinX fun (s31 : Unit) => (Option.bind (oper_Of x0.Whole_ x0.Part_ x0.C_) fun y63 => (Option.bind (exergueref07_Of x0.Whole_ x0.Part_ x0.C_) fun y66 => (Option.bind (exergueref07_Right x0.O_) fun y69 => (Option.bind (Option.bind (Option.bind (exergueref07_Same y63.1 y66.1) fun y154 => (bif (!y154) then (some true) else (bif (decide (¬ y63.2 = y66.2)) then (some true) else (Option.bind (oper_Right x0.O_) fun y163 => (bif (y163 != y69) then (some true) else (Option.bind (oper_Same y63.1 x0.O_) fun y169 => (Option.bind (exergueref07_Same y63.1 x0.O_) fun y172 => (some (y169 != y172))))))))) fun (s149 : Bool) => (bif s149 then (some (.inr false)) else (some (.inl ())))) (joinX fun (s123 : Unit) => (bif (!y69) then (some y1) else (Option.bind (oper_Operand x0.O_ x0.Name_) fun y182 => (Option.bind (exergueref07_Operand x0.O_ x0.Name_) fun y185 => (Option.bind (bif y1 then (Option.bind (exergueref01_Row y182.1 y185.1) fun y205 => (bif y205 then (some (y182.2 == y185.2)) else (some false))) else (some false)) fun (s197 : Bool) => (some s197)))))))))))))
theorem exerguelaw07_OperTells_ok {x0 : St25} {r : Bool} (h : exerguelaw07_OperTells x0 = some r) : SC Try.prog 3 [.agg [lsv (encI .u8) 1 x0.Whole_, lsv (encI .u8) 1 x0.Part_, .int .i64 x0.C_, lsv (encI .u8) 1 x0.O_.I_, lsv (encI .u8) 1 x0.O_.F_, .int .i64 x0.O_.W_, .int .i64 x0.O_.C_, .int .u8 x0.Name_]] [] (.bool r) [] := by
  refine K.fn (fn := Try.f3) (by kernel_rfl) (by kernel_rfl) (by kernel_rfl) (by kernel_rfl) (by kernel_rfl) (fun F hFn hFH hFD => ?_)
  unfold exerguelaw07_OperTells at h
  refine K.seq (by kernel_rfl) ?_
  refine K.region (by kernel_rfl) ?_
  refine RJ.seg 2 [1, 2] (L2 := [(1, .ptr 0 0), (2, .bool false)]) (H2 := [.box [lsv (encI .u8) 1 x0.Whole_, lsv (encI .u8) 1 x0.Part_, .int .i64 x0.C_, lsv (encI .u8) 1 x0.O_.I_, lsv (encI .u8) 1 x0.O_.F_, .int .i64 x0.O_.W_, .int .i64 x0.O_.C_, .int .u8 x0.Name_]]) (by kernel_rfl) ?_
  refine RJ.end (by kernel_rfl) ?_
  refine PJ.next ?_
  refine K.seq (by kernel_rfl) ?_
  refine K.region (by kernel_rfl) ?_
  refine RJ.seg 3 [1, 2, 3] (L2 := [(1, .ptr 0 0), (2, .bool false), (3, lsv (encI .u8) 1 x0.Whole_)]) (H2 := [.box [lsv (encI .u8) 1 x0.Whole_, lsv (encI .u8) 1 x0.Part_, .int .i64 x0.C_, lsv (encI .u8) 1 x0.O_.I_, lsv (encI .u8) 1 x0.O_.F_, .int .i64 x0.O_.W_, .int .i64 x0.O_.C_, .int .u8 x0.Name_]]) (by kernel_rfl) ?_
  refine RJ.end (by kernel_rfl) ?_
  refine PJ.next ?_
  refine K.seq (by kernel_rfl) ?_
  refine K.region (by kernel_rfl) ?_
  refine RJ.seg 3 [1, 2, 3, 4] (L2 := [(1, .ptr 0 0), (2, .bool false), (3, lsv (encI .u8) 1 x0.Whole_), (4, lsv (encI .u8) 1 x0.Part_)]) (H2 := [.box [lsv (encI .u8) 1 x0.Whole_, lsv (encI .u8) 1 x0.Part_, .int .i64 x0.C_, lsv (encI .u8) 1 x0.O_.I_, lsv (encI .u8) 1 x0.O_.F_, .int .i64 x0.O_.W_, .int .i64 x0.O_.C_, .int .u8 x0.Name_]]) (by kernel_rfl) ?_
  refine RJ.end (by kernel_rfl) ?_
  refine PJ.next ?_
  refine K.seq (by kernel_rfl) ?_
  refine K.region (by kernel_rfl) ?_
  refine RJ.seg 3 [1, 2, 3, 4, 5] (L2 := [(1, .ptr 0 0), (2, .bool false), (3, lsv (encI .u8) 1 x0.Whole_), (4, lsv (encI .u8) 1 x0.Part_), (5, .int .i64 x0.C_)]) (H2 := [.box [lsv (encI .u8) 1 x0.Whole_, lsv (encI .u8) 1 x0.Part_, .int .i64 x0.C_, lsv (encI .u8) 1 x0.O_.I_, lsv (encI .u8) 1 x0.O_.F_, .int .i64 x0.O_.W_, .int .i64 x0.O_.C_, .int .u8 x0.Name_]]) (by kernel_rfl) ?_
  refine RJ.end (by kernel_rfl) ?_
  refine PJ.next ?_
  refine K.seq (by kernel_rfl) ?_
  refine K.region (by kernel_rfl) ?_
  refine RJ.seg 4 [1, 2, 3, 4, 5, 6] (L2 := [(1, .ptr 0 0), (2, .bool false), (3, lsv (encI .u8) 1 x0.Whole_), (4, lsv (encI .u8) 1 x0.Part_), (5, .int .i64 x0.C_), (6, .ptr 1 0)]) (H2 := [.box [lsv (encI .u8) 1 x0.Whole_, lsv (encI .u8) 1 x0.Part_, .int .i64 x0.C_, lsv (encI .u8) 1 x0.O_.I_, lsv (encI .u8) 1 x0.O_.F_, .int .i64 x0.O_.W_, .int .i64 x0.O_.C_, .int .u8 x0.Name_], .box [lsv (encI .u8) 1 x0.O_.I_, lsv (encI .u8) 1 x0.O_.F_, .int .i64 x0.O_.W_, .int .i64 x0.O_.C_]]) (by kernel_rfl) ?_
  refine RJ.end (by kernel_rfl) ?_
  refine PJ.next ?_
  refine K.seq (by kernel_rfl) ?_
  refine K.region (by kernel_rfl) ?_
  refine RJ.seg 3 [2, 3, 4, 5, 6, 7] (L2 := [(2, .bool false), (3, lsv (encI .u8) 1 x0.Whole_), (4, lsv (encI .u8) 1 x0.Part_), (5, .int .i64 x0.C_), (6, .ptr 1 0), (7, .int .u8 x0.Name_)]) (H2 := [.box [lsv (encI .u8) 1 x0.Whole_, lsv (encI .u8) 1 x0.Part_, .int .i64 x0.C_, lsv (encI .u8) 1 x0.O_.I_, lsv (encI .u8) 1 x0.O_.F_, .int .i64 x0.O_.W_, .int .i64 x0.O_.C_, .int .u8 x0.Name_], .box [lsv (encI .u8) 1 x0.O_.I_, lsv (encI .u8) 1 x0.O_.F_, .int .i64 x0.O_.W_, .int .i64 x0.O_.C_]]) (by kernel_rfl) ?_
  refine RJ.end (by kernel_rfl) ?_
  refine PJ.next ?_
  refine K.seq (by kernel_rfl) ?_
  refine K.region (by kernel_rfl) ?_
  obtain ⟨y1, hy2, h3⟩ := bindS h
  refine RJ.call0 (d := (some 28)) (f := 10) (args := []) (v := .bool y1) (tr2 := []) (by kernel_rfl) (by kernel_rfl) .nil (exerguelaw07_shown_ok hy2) (by kernel_rfl) ?_
  refine RJ.seg 1 [2, 3, 4, 5, 6, 7, 8] (L2 := [(2, .bool false), (3, lsv (encI .u8) 1 x0.Whole_), (4, lsv (encI .u8) 1 x0.Part_), (5, .int .i64 x0.C_), (6, .ptr 1 0), (7, .int .u8 x0.Name_), (8, .bool y1)]) (H2 := [.box [lsv (encI .u8) 1 x0.Whole_, lsv (encI .u8) 1 x0.Part_, .int .i64 x0.C_, lsv (encI .u8) 1 x0.O_.I_, lsv (encI .u8) 1 x0.O_.F_, .int .i64 x0.O_.W_, .int .i64 x0.O_.C_, .int .u8 x0.Name_], .box [lsv (encI .u8) 1 x0.O_.I_, lsv (encI .u8) 1 x0.O_.F_, .int .i64 x0.O_.W_, .int .i64 x0.O_.C_]]) (by kernel_rfl) ?_
  refine RJ.end (by kernel_rfl) ?_
  refine PJ.next ?_
  obtain ⟨y32, hy33, h34⟩ := bindS h3
  refine K.cutX (by kernel_rfl) (fun (s31 : Unit) => ([(2, .bool false), (3, lsv (encI .u8) 1 x0.Whole_), (4, lsv (encI .u8) 1 x0.Part_), (5, .int .i64 x0.C_), (6, .ptr 0 0), (7, .int .u8 x0.Name_), (8, .bool y1)], [.box [lsv (encI .u8) 1 x0.O_.I_, lsv (encI .u8) 1 x0.O_.F_, .int .i64 x0.O_.W_, .int .i64 x0.O_.C_]])) y32 ?_ (fun s31 hs => ?_)
  · obtain ⟨s45, hy47, h49⟩ := bindS hy33
    refine K.cutN (by kernel_rfl) (fun (s45 : Bool) => ([(2, .bool false), (3, lsv (encI .u8) 1 x0.Whole_), (4, lsv (encI .u8) 1 x0.Part_), (5, .int .i64 x0.C_), (6, .ptr 0 0), (7, .int .u8 x0.Name_), (8, .bool y1), (40, .bool s45)], [.box [lsv (encI .u8) 1 x0.O_.I_, lsv (encI .u8) 1 x0.O_.F_, .int .i64 x0.O_.W_, .int .i64 x0.O_.C_]])) s45 ?_ ?_
    · refine K.region (by kernel_rfl) ?_
      refine RJ.seg 2 [2, 3, 4, 5, 6, 7, 8, 29, 30] (L2 := [(2, .bool false), (3, lsv (encI .u8) 1 x0.Whole_), (4, lsv (encI .u8) 1 x0.Part_), (5, .int .i64 x0.C_), (6, .ptr 1 0), (7, .int .u8 x0.Name_), (8, .bool y1), (29, lsv (encI .u8) 1 x0.Whole_), (30, lsv (encI .u8) 1 x0.Part_)]) (H2 := [.box [lsv (encI .u8) 1 x0.Whole_, lsv (encI .u8) 1 x0.Part_, .int .i64 x0.C_, lsv (encI .u8) 1 x0.O_.I_, lsv (encI .u8) 1 x0.O_.F_, .int .i64 x0.O_.W_, .int .i64 x0.O_.C_, .int .u8 x0.Name_], .box [lsv (encI .u8) 1 x0.O_.I_, lsv (encI .u8) 1 x0.O_.F_, .int .i64 x0.O_.W_, .int .i64 x0.O_.C_]]) (by kernel_rfl) ?_
      obtain ⟨y50, hy51, h52⟩ := bindS hy47
      refine RJ.call0 (d := (some 31)) (f := 11) (args := [lsv (encI .u8) 1 x0.Whole_, lsv (encI .u8) 1 x0.Part_]) (v := .bool y50) (tr2 := []) (by kernel_rfl) (by kernel_rfl) (.cons (Le.refl _) (.cons (Le.refl _) .nil)) (exerguelaw07_few_ok hy51) (by kernel_rfl) ?_
      refine RJ.seg 2 [2, 3, 4, 5, 6, 7, 8, 33] (L2 := [(2, .bool false), (3, lsv (encI .u8) 1 x0.Whole_), (4, lsv (encI .u8) 1 x0.Part_), (5, .int .i64 x0.C_), (6, .ptr 1 0), (7, .int .u8 x0.Name_), (8, .bool y1), (33, .bool (!y50))]) (H2 := [.box [lsv (encI .u8) 1 x0.Whole_, lsv (encI .u8) 1 x0.Part_, .int .i64 x0.C_, lsv (encI .u8) 1 x0.O_.I_, lsv (encI .u8) 1 x0.O_.F_, .int .i64 x0.O_.W_, .int .i64 x0.O_.C_, .int .u8 x0.Name_], .box [lsv (encI .u8) 1 x0.O_.I_, lsv (encI .u8) 1 x0.O_.F_, .int .i64 x0.O_.W_, .int .i64 x0.O_.C_]]) (by kernel_rfl) ?_
      refine RJ.caseB 33 (b := (!y50)) (by kernel_rfl) (fun hb53 => ?_) (fun hb53 => ?_)
      · have h54 := condT hb53 h52
        refine RJ.seg 7 [2, 3, 4, 5, 6, 7, 8, 40] (L2 := [(2, .bool false), (3, lsv (encI .u8) 1 x0.Whole_), (4, lsv (encI .u8) 1 x0.Part_), (5, .int .i64 x0.C_), (6, .ptr 1 0), (7, .int .u8 x0.Name_), (8, .bool y1), (40, .bool true)]) (H2 := [.box [lsv (encI .u8) 1 x0.Whole_, lsv (encI .u8) 1 x0.Part_, .int .i64 x0.C_, lsv (encI .u8) 1 x0.O_.I_, lsv (encI .u8) 1 x0.O_.F_, .int .i64 x0.O_.W_, .int .i64 x0.O_.C_, .int .u8 x0.Name_], .box [lsv (encI .u8) 1 x0.O_.I_, lsv (encI .u8) 1 x0.O_.F_, .int .i64 x0.O_.W_, .int .i64 x0.O_.C_]]) (by kernel_rfl) ?_
        refine RJ.end (by kernel_rfl) ?_
        obtain rfl := Option.some.inj h54
        refine PJ.wk (Wk.sel (L2 := [(2, .bool false), (3, lsv (encI .u8) 1 x0.Whole_), (4, lsv (encI .u8) 1 x0.Part_), (5, .int .i64 x0.C_), (6, .ptr 0 0), (7, .int .u8 x0.Name_), (8, .bool y1), (40, .bool true)]) (H2 := [.box [lsv (encI .u8) 1 x0.O_.I_, lsv (encI .u8) 1 x0.O_.F_, .int .i64 x0.O_.W_, .int .i64 x0.O_.C_]]) 0 (by rw [hFH]; rfl) hFD [1] (by kernel_rfl) (by kernel_rfl) (by decide) (by kernel_rfl) (by kernel_rfl) (by kernel_rfl) (by kernel_rfl)) ?_
        exact PJ.cutN [2, 3, 4, 5, 6, 7, 8, 40] (by kernel_rfl) (by kernel_rfl)
      · have h55 := condF hb53 h52
        refine RJ.seg 4 [2, 3, 4, 5, 6, 7, 8, 33, 35, 37] (L2 := [(2, .bool false), (3, lsv (encI .u8) 1 x0.Whole_), (4, lsv (encI .u8) 1 x0.Part_), (5, .int .i64 x0.C_), (6, .ptr 1 0), (7, .int .u8 x0.Name_), (8, .bool y1), (33, .bool false), (35, lsv (encI .u8) 1 x0.O_.I_), (37, lsv (encI .u8) 1 x0.O_.F_)]) (H2 := [.box [lsv (encI .u8) 1 x0.Whole_, lsv (encI .u8) 1 x0.Part_, .int .i64 x0.C_, lsv (encI .u8) 1 x0.O_.I_, lsv (encI .u8) 1 x0.O_.F_, .int .i64 x0.O_.W_, .int .i64 x0.O_.C_, .int .u8 x0.Name_], .box [lsv (encI .u8) 1 x0.O_.I_, lsv (encI .u8) 1 x0.O_.F_, .int .i64 x0.O_.W_, .int .i64 x0.O_.C_]]) (by kernel_rfl) ?_
        obtain ⟨y56, hy57, h58⟩ := bindS h55
        refine RJ.call0 (d := (some 38)) (f := 11) (args := [lsv (encI .u8) 1 x0.O_.I_, lsv (encI .u8) 1 x0.O_.F_]) (v := .bool y56) (tr2 := []) (by kernel_rfl) (by kernel_rfl) (.cons (Le.refl _) (.cons (Le.refl _) .nil)) (exerguelaw07_few_ok hy57) (by kernel_rfl) ?_
        refine RJ.seg 2 [2, 3, 4, 5, 6, 7, 8, 40] (L2 := [(2, .bool false), (3, lsv (encI .u8) 1 x0.Whole_), (4, lsv (encI .u8) 1 x0.Part_), (5, .int .i64 x0.C_), (6, .ptr 1 0), (7, .int .u8 x0.Name_), (8, .bool y1), (40, .bool (!y56))]) (H2 := [.box [lsv (encI .u8) 1 x0.Whole_, lsv (encI .u8) 1 x0.Part_, .int .i64 x0.C_, lsv (encI .u8) 1 x0.O_.I_, lsv (encI .u8) 1 x0.O_.F_, .int .i64 x0.O_.W_, .int .i64 x0.O_.C_, .int .u8 x0.Name_], .box [lsv (encI .u8) 1 x0.O_.I_, lsv (encI .u8) 1 x0.O_.F_, .int .i64 x0.O_.W_, .int .i64 x0.O_.C_]]) (by kernel_rfl) ?_
        refine RJ.end (by kernel_rfl) ?_
        obtain rfl := Option.some.inj h58
        refine PJ.wk (Wk.sel (L2 := [(2, .bool false), (3, lsv (encI .u8) 1 x0.Whole_), (4, lsv (encI .u8) 1 x0.Part_), (5, .int .i64 x0.C_), (6, .ptr 0 0), (7, .int .u8 x0.Name_), (8, .bool y1), (40, .bool (!y56))]) (H2 := [.box [lsv (encI .u8) 1 x0.O_.I_, lsv (encI .u8) 1 x0.O_.F_, .int .i64 x0.O_.W_, .int .i64 x0.O_.C_]]) 0 (by rw [hFH]; rfl) hFD [1] (by kernel_rfl) (by kernel_rfl) (by decide) (by kernel_rfl) (by kernel_rfl) (by kernel_rfl) (by kernel_rfl)) ?_
        exact PJ.cutN [2, 3, 4, 5, 6, 7, 8, 40] (by kernel_rfl) (by kernel_rfl)
    · refine J.caseB 40 (b := s45) (by kernel_rfl) (fun hb59 => ?_) (fun hb59 => ?_)
      · have h60 := condT hb59 h49
        refine K.condT (by kernel_rfl) ?_
        refine K.seq (by kernel_rfl) ?_
        refine K.region (by kernel_rfl) ?_
        refine RJ.seg 2 [2, 3, 4, 5, 6, 7, 8] (L2 := [(2, .bool y1), (3, lsv (encI .u8) 1 x0.Whole_), (4, lsv (encI .u8) 1 x0.Part_), (5, .int .i64 x0.C_), (6, .ptr 0 0), (7, .int .u8 x0.Name_), (8, .bool y1)]) (H2 := [.box [lsv (encI .u8) 1 x0.O_.I_, lsv (encI .u8) 1 x0.O_.F_, .int .i64 x0.O_.W_, .int .i64 x0.O_.C_]]) (by kernel_rfl) ?_
        refine RJ.end (by kernel_rfl) ?_
        refine PJ.next ?_
        refine K.ret (by kernel_rfl) ?_
        obtain rfl := Option.some.inj h60
        have h62 := joinX_inr h34
        refine PJ.cutXr (fun e => nomatch e) ?_
        obtain rfl := Option.some.inj h62
        exact K.ret0 (.inr rfl) hFn hFH hFD (by kernel_rfl) (by kernel_rfl) (by kernel_rfl)
      · have h61 := condF hb59 h49
        refine K.condF (by kernel_rfl) ?_
        refine K.skip (by kernel_rfl) ?_
        obtain rfl := Option.some.inj h61
        exact PJ.cutXl [2, 3, 4, 5, 6, 7, 8] (by kernel_rfl) (by kernel_rfl)
  · subst hs
    have h35 := joinX_inl h34
    refine K.seq (by kernel_rfl) ?_
    refine K.region (by kernel_rfl) ?_
    refine RJ.seg 3 [2, 3, 4, 5, 6, 7, 8, 43, 44, 45] (L2 := [(2, .bool false), (3, lsv (encI .u8) 1 x0.Whole_), (4, lsv (encI .u8) 1 x0.Part_), (5, .int .i64 x0.C_), (6, .ptr 0 0), (7, .int .u8 x0.Name_), (8, .bool y1), (43, lsv (encI .u8) 1 x0.Whole_), (44, lsv (encI .u8) 1 x0.Part_), (45, .int .i64 x0.C_)]) (H2 := [.box [lsv (encI .u8) 1 x0.O_.I_, lsv (encI .u8) 1 x0.O_.F_, .int .i64 x0.O_.W_, .int .i64 x0.O_.C_]]) (by kernel_rfl) ?_
    obtain ⟨y63, hy64, h65⟩ := bindS h35
    refine RJ.call0 (d := (some 46)) (f := 12) (args := [lsv (encI .u8) 1 x0.Whole_, lsv (encI .u8) 1 x0.Part_, .int .i64 x0.C_]) (v := .tup [.agg [lsv (encI .u8) 1 y63.1.I_, lsv (encI .u8) 1 y63.1.F_, .int .i64 y63.1.W_, .int .i64 y63.1.C_], .int .i64 y63.2]) (tr2 := []) (by kernel_rfl) (by kernel_rfl) (.cons (Le.refl _) (.cons (Le.refl _) (.cons (Le.refl _) .nil))) (oper_Of_ok hy64) (by kernel_rfl) ?_
    refine RJ.seg 6 [2, 3, 4, 5, 6, 7, 8, 9, 10] (L2 := [(2, .bool false), (3, lsv (encI .u8) 1 x0.Whole_), (4, lsv (encI .u8) 1 x0.Part_), (5, .int .i64 x0.C_), (6, .ptr 0 0), (7, .int .u8 x0.Name_), (8, .bool y1), (9, .ptr 1 0), (10, .int .i64 y63.2)]) (H2 := [.box [lsv (encI .u8) 1 x0.O_.I_, lsv (encI .u8) 1 x0.O_.F_, .int .i64 x0.O_.W_, .int .i64 x0.O_.C_], .box [lsv (encI .u8) 1 y63.1.I_, lsv (encI .u8) 1 y63.1.F_, .int .i64 y63.1.W_, .int .i64 y63.1.C_]]) (by kernel_rfl) ?_
    refine RJ.end (by kernel_rfl) ?_
    refine PJ.next ?_
    refine K.seq (by kernel_rfl) ?_
    refine K.region (by kernel_rfl) ?_
    refine RJ.seg 3 [2, 6, 7, 8, 9, 10, 50, 51, 52] (L2 := [(2, .bool false), (6, .ptr 0 0), (7, .int .u8 x0.Name_), (8, .bool y1), (9, .ptr 1 0), (10, .int .i64 y63.2), (50, lsv (encI .u8) 1 x0.Whole_), (51, lsv (encI .u8) 1 x0.Part_), (52, .int .i64 x0.C_)]) (H2 := [.box [lsv (encI .u8) 1 x0.O_.I_, lsv (encI .u8) 1 x0.O_.F_, .int .i64 x0.O_.W_, .int .i64 x0.O_.C_], .box [lsv (encI .u8) 1 y63.1.I_, lsv (encI .u8) 1 y63.1.F_, .int .i64 y63.1.W_, .int .i64 y63.1.C_]]) (by kernel_rfl) ?_
    obtain ⟨y66, hy67, h68⟩ := bindS h65
    refine RJ.call0 (d := (some 53)) (f := 13) (args := [lsv (encI .u8) 1 x0.Whole_, lsv (encI .u8) 1 x0.Part_, .int .i64 x0.C_]) (v := .tup [.agg [lsv (encI .u8) 1 y66.1.I_, lsv (encI .u8) 1 y66.1.F_, .int .i64 y66.1.W_, .int .i64 y66.1.C_], .int .i64 y66.2]) (tr2 := []) (by kernel_rfl) (by kernel_rfl) (.cons (Le.refl _) (.cons (Le.refl _) (.cons (Le.refl _) .nil))) (exergueref07_Of_ok hy67) (by kernel_rfl) ?_
    refine RJ.seg 6 [2, 6, 7, 8, 9, 10, 11, 12] (L2 := [(2, .bool false), (6, .ptr 0 0), (7, .int .u8 x0.Name_), (8, .bool y1), (9, .ptr 1 0), (10, .int .i64 y63.2), (11, .ptr 2 0), (12, .int .i64 y66.2)]) (H2 := [.box [lsv (encI .u8) 1 x0.O_.I_, lsv (encI .u8) 1 x0.O_.F_, .int .i64 x0.O_.W_, .int .i64 x0.O_.C_], .box [lsv (encI .u8) 1 y63.1.I_, lsv (encI .u8) 1 y63.1.F_, .int .i64 y63.1.W_, .int .i64 y63.1.C_], .box [lsv (encI .u8) 1 y66.1.I_, lsv (encI .u8) 1 y66.1.F_, .int .i64 y66.1.W_, .int .i64 y66.1.C_]]) (by kernel_rfl) ?_
    refine RJ.end (by kernel_rfl) ?_
    refine PJ.next ?_
    refine K.seq (by kernel_rfl) ?_
    refine K.region (by kernel_rfl) ?_
    refine RJ.seg 1 [2, 6, 7, 8, 9, 10, 11, 12, 56] (L2 := [(2, .bool false), (6, .ptr 0 0), (7, .int .u8 x0.Name_), (8, .bool y1), (9, .ptr 1 0), (10, .int .i64 y63.2), (11, .ptr 2 0), (12, .int .i64 y66.2), (56, .agg [lsv (encI .u8) 1 x0.O_.I_, lsv (encI .u8) 1 x0.O_.F_, .int .i64 x0.O_.W_, .int .i64 x0.O_.C_])]) (H2 := [.box [lsv (encI .u8) 1 x0.O_.I_, lsv (encI .u8) 1 x0.O_.F_, .int .i64 x0.O_.W_, .int .i64 x0.O_.C_], .box [lsv (encI .u8) 1 y63.1.I_, lsv (encI .u8) 1 y63.1.F_, .int .i64 y63.1.W_, .int .i64 y63.1.C_], .box [lsv (encI .u8) 1 y66.1.I_, lsv (encI .u8) 1 y66.1.F_, .int .i64 y66.1.W_, .int .i64 y66.1.C_]]) (by kernel_rfl) ?_
    obtain ⟨y69, hy70, h71⟩ := bindS h68
    refine RJ.call0 (d := (some 57)) (f := 14) (args := [.agg [lsv (encI .u8) 1 x0.O_.I_, lsv (encI .u8) 1 x0.O_.F_, .int .i64 x0.O_.W_, .int .i64 x0.O_.C_]]) (v := .bool y69) (tr2 := []) (by kernel_rfl) (by kernel_rfl) (.cons (Le.refl _) .nil) (exergueref07_Right_ok hy70) (by kernel_rfl) ?_
    refine RJ.seg 1 [2, 6, 7, 8, 9, 10, 11, 12, 13] (L2 := [(2, .bool false), (6, .ptr 0 0), (7, .int .u8 x0.Name_), (8, .bool y1), (9, .ptr 1 0), (10, .int .i64 y63.2), (11, .ptr 2 0), (12, .int .i64 y66.2), (13, .bool y69)]) (H2 := [.box [lsv (encI .u8) 1 x0.O_.I_, lsv (encI .u8) 1 x0.O_.F_, .int .i64 x0.O_.W_, .int .i64 x0.O_.C_], .box [lsv (encI .u8) 1 y63.1.I_, lsv (encI .u8) 1 y63.1.F_, .int .i64 y63.1.W_, .int .i64 y63.1.C_], .box [lsv (encI .u8) 1 y66.1.I_, lsv (encI .u8) 1 y66.1.F_, .int .i64 y66.1.W_, .int .i64 y66.1.C_]]) (by kernel_rfl) ?_
    refine RJ.end (by kernel_rfl) ?_
    refine PJ.next ?_
    obtain ⟨y124, hy125, h126⟩ := bindS h71
    refine K.cutX (by kernel_rfl) (fun (s123 : Unit) => ([(2, .bool false), (6, .ptr 0 0), (7, .int .u8 x0.Name_), (8, .bool y1), (13, .bool y69)], [.box [lsv (encI .u8) 1 x0.O_.I_, lsv (encI .u8) 1 x0.O_.F_, .int .i64 x0.O_.W_, .int .i64 x0.O_.C_]])) y124 ?_ (fun s123 hs => ?_)
    · obtain ⟨s149, hy151, h153⟩ := bindS hy125
      refine K.cutN (by kernel_rfl) (fun (s149 : Bool) => ([(2, .bool false), (6, .ptr 0 0), (7, .int .u8 x0.Name_), (8, .bool y1), (13, .bool y69), (81, .bool s149)], [.box [lsv (encI .u8) 1 x0.O_.I_, lsv (encI .u8) 1 x0.O_.F_, .int .i64 x0.O_.W_, .int .i64 x0.O_.C_]])) s149 ?_ ?_
      · refine J.keep [2, 6, 7, 8, 9, 10, 11, 12, 13] (L2 := [(2, .bool false), (6, .ptr 0 0), (7, .int .u8 x0.Name_), (8, .bool y1), (9, .ptr 1 0), (10, .int .i64 y63.2), (11, .ptr 2 0), (12, .int .i64 y66.2), (13, .bool y69)]) (by kernel_rfl) ?_
        refine K.draw (by kernel_rfl) (by kernel_rfl) (by kernel_rfl) (H2 := [.box [lsv (encI .u8) 1 x0.O_.I_, lsv (encI .u8) 1 x0.O_.F_, .int .i64 x0.O_.W_, .int .i64 x0.O_.C_], .box [lsv (encI .u8) 1 y63.1.I_, lsv (encI .u8) 1 y63.1.F_, .int .i64 y63.1.W_, .int .i64 y63.1.C_], .box [lsv (encI .u8) 1 y66.1.I_, lsv (encI .u8) 1 y66.1.F_, .int .i64 y66.1.W_, .int .i64 y66.1.C_], .res, .res, .res, .res]) (by kernel_rfl) (n := 3) (by kernel_rfl) ?_
        refine RJ.segD 2 (tr2 := [([2, 3], []), ([4, 5], [])]) (L2 := [(59, .agg [lsv (encI .u8) 1 y66.1.I_, lsv (encI .u8) 1 y66.1.F_, .int .i64 y66.1.W_, .int .i64 y66.1.C_]), (58, .agg [lsv (encI .u8) 1 y63.1.I_, lsv (encI .u8) 1 y63.1.F_, .int .i64 y63.1.W_, .int .i64 y63.1.C_]), (2, .bool false), (6, .ptr 0 0), (7, .int .u8 x0.Name_), (8, .bool y1), (9, .ptr 1 0), (10, .int .i64 y63.2), (11, .ptr 2 0), (12, .int .i64 y66.2), (13, .bool y69)]) (H2 := [.box [lsv (encI .u8) 1 x0.O_.I_, lsv (encI .u8) 1 x0.O_.F_, .int .i64 x0.O_.W_, .int .i64 x0.O_.C_], .box [lsv (encI .u8) 1 y63.1.I_, lsv (encI .u8) 1 y63.1.F_, .int .i64 y63.1.W_, .int .i64 y63.1.C_], .box [lsv (encI .u8) 1 y66.1.I_, lsv (encI .u8) 1 y66.1.F_, .int .i64 y66.1.W_, .int .i64 y66.1.C_], .res, .res, .res, .res]) (by kernel_rfl) ?_
        obtain ⟨y154, hy155, h156⟩ := bindS hy151
        refine RJ.call0 (d := (some 60)) (f := 15) (args := [.agg [lsv (encI .u8) 1 y63.1.I_, lsv (encI .u8) 1 y63.1.F_, .int .i64 y63.1.W_, .int .i64 y63.1.C_], .agg [lsv (encI .u8) 1 y66.1.I_, lsv (encI .u8) 1 y66.1.F_, .int .i64 y66.1.W_, .int .i64 y66.1.C_]]) (v := .bool y154) (tr2 := [([2, 3], []), ([4, 5], []), ([], [6, 7])]) (by kernel_rfl) (by kernel_rfl) (.cons (Le.refl _) (.cons (Le.refl _) .nil)) (exergueref07_Same_ok hy155) (by kernel_rfl) ?_
        refine RJ.segD 2 (tr2 := [([2, 3], []), ([4, 5], []), ([], [6, 7]), ([], []), ([], [])]) (L2 := [(62, .bool (!y154)), (61, .bool (!y154)), (60, .bool y154), (59, .agg [lsv (encI .u8) 1 y66.1.I_, lsv (encI .u8) 1 y66.1.F_, .int .i64 y66.1.W_, .int .i64 y66.1.C_]), (58, .agg [lsv (encI .u8) 1 y63.1.I_, lsv (encI .u8) 1 y63.1.F_, .int .i64 y63.1.W_, .int .i64 y63.1.C_]), (2, .bool false), (6, .ptr 0 0), (7, .int .u8 x0.Name_), (8, .bool y1), (9, .ptr 1 0), (10, .int .i64 y63.2), (11, .ptr 2 0), (12, .int .i64 y66.2), (13, .bool y69)]) (H2 := [.box [lsv (encI .u8) 1 x0.O_.I_, lsv (encI .u8) 1 x0.O_.F_, .int .i64 x0.O_.W_, .int .i64 x0.O_.C_], .box [lsv (encI .u8) 1 y63.1.I_, lsv (encI .u8) 1 y63.1.F_, .int .i64 y63.1.W_, .int .i64 y63.1.C_], .box [lsv (encI .u8) 1 y66.1.I_, lsv (encI .u8) 1 y66.1.F_, .int .i64 y66.1.W_, .int .i64 y66.1.C_], .res, .res, .res, .res]) (by kernel_rfl) ?_
        refine RJ.caseB 62 (b := (!y154)) (by kernel_rfl) (fun hb157 => ?_) (fun hb157 => ?_)
        · have h158 := condT hb157 h156
          refine RJ.segD 19 (tr2 := [([2, 3], []), ([4, 5], []), ([], [6, 7]), ([], []), ([], []), ([], []), ([], []), ([], []), ([], []), ([], []), ([], []), ([], [8, 9]), ([], []), ([], []), ([], []), ([], []), ([], []), ([], []), ([], [10, 11]), ([], []), ([], []), ([], [12, 13]), ([], []), ([], [])]) (L2 := [(81, .bool true), (80, .tup []), (79, .tup []), (78, .tup []), (77, .tup []), (76, .tup []), (75, .tup []), (74, .tup []), (73, .bool true), (72, .bool true), (71, .tup []), (70, .tup []), (69, .tup []), (68, .tup []), (67, .bool true), (66, .bool true), (65, .tup []), (64, .tup []), (63, .tup []), (62, .bool true), (62, .bool (!y154)), (61, .bool (!y154)), (60, .bool y154), (59, .agg [lsv (encI .u8) 1 y66.1.I_, lsv (encI .u8) 1 y66.1.F_, .int .i64 y66.1.W_, .int .i64 y66.1.C_]), (58, .agg [lsv (encI .u8) 1 y63.1.I_, lsv (encI .u8) 1 y63.1.F_, .int .i64 y63.1.W_, .int .i64 y63.1.C_]), (2, .bool false), (6, .ptr 0 0), (7, .int .u8 x0.Name_), (8, .bool y1), (9, .ptr 1 0), (10, .int .i64 y63.2), (11, .ptr 2 0), (12, .int .i64 y66.2), (13, .bool y69)]) (H2 := [.box [lsv (encI .u8) 1 x0.O_.I_, lsv (encI .u8) 1 x0.O_.F_, .int .i64 x0.O_.W_, .int .i64 x0.O_.C_], .box [lsv (encI .u8) 1 y63.1.I_, lsv (encI .u8) 1 y63.1.F_, .int .i64 y63.1.W_, .int .i64 y63.1.C_], .box [lsv (encI .u8) 1 y66.1.I_, lsv (encI .u8) 1 y66.1.F_, .int .i64 y66.1.W_, .int .i64 y66.1.C_], .res, .res, .res, .res]) (by kernel_rfl) ?_
          refine RJ.end (by kernel_rfl) ?_
          obtain rfl := Option.some.inj h158
          refine PJ.wk (Wk.sel (L2 := [(2, .bool false), (6, .ptr 0 0), (7, .int .u8 x0.Name_), (8, .bool y1), (13, .bool y69), (81, .bool true)]) (H2 := [.box [lsv (encI .u8) 1 x0.O_.I_, lsv (encI .u8) 1 x0.O_.F_, .int .i64 x0.O_.W_, .int .i64 x0.O_.C_]]) 0 (by rw [hFH]; rfl) hFD [0] (by kernel_rfl) (by kernel_rfl) (by decide) (by kernel_rfl) (by kernel_rfl) (by kernel_rfl) (by kernel_rfl)) ?_
          exact PJ.cutN [2, 6, 7, 8, 13, 81] (by kernel_rfl) (by kernel_rfl)
        · have h159 := condF hb157 h156
          refine RJ.segD 5 (tr2 := [([2, 3], []), ([4, 5], []), ([], [6, 7]), ([], []), ([], []), ([], []), ([], []), ([], []), ([], []), ([], [])]) (L2 := [(67, .bool (decide (¬ y63.2 = y66.2))), (66, .bool (decide (¬ y63.2 = y66.2))), (65, .bool (decide (¬ y63.2 = y66.2))), (64, .int .i64 y66.2), (63, .int .i64 y63.2), (62, .bool false), (62, .bool (!y154)), (61, .bool (!y154)), (60, .bool y154), (59, .agg [lsv (encI .u8) 1 y66.1.I_, lsv (encI .u8) 1 y66.1.F_, .int .i64 y66.1.W_, .int .i64 y66.1.C_]), (58, .agg [lsv (encI .u8) 1 y63.1.I_, lsv (encI .u8) 1 y63.1.F_, .int .i64 y63.1.W_, .int .i64 y63.1.C_]), (2, .bool false), (6, .ptr 0 0), (7, .int .u8 x0.Name_), (8, .bool y1), (9, .ptr 1 0), (10, .int .i64 y63.2), (11, .ptr 2 0), (12, .int .i64 y66.2), (13, .bool y69)]) (H2 := [.box [lsv (encI .u8) 1 x0.O_.I_, lsv (encI .u8) 1 x0.O_.F_, .int .i64 x0.O_.W_, .int .i64 x0.O_.C_], .box [lsv (encI .u8) 1 y63.1.I_, lsv (encI .u8) 1 y63.1.F_, .int .i64 y63.1.W_, .int .i64 y63.1.C_], .box [lsv (encI .u8) 1 y66.1.I_, lsv (encI .u8) 1 y66.1.F_, .int .i64 y66.1.W_, .int .i64 y66.1.C_], .res, .res, .res, .res]) (by kernel_rfl) ?_
          refine RJ.caseB 67 (b := (decide (¬ y63.2 = y66.2))) (by kernel_rfl) (fun hb160 => ?_) (fun hb160 => ?_)
          · have h161 := condT hb160 h159
            refine RJ.segD 14 (tr2 := [([2, 3], []), ([4, 5], []), ([], [6, 7]), ([], []), ([], []), ([], []), ([], []), ([], []), ([], []), ([], []), ([], []), ([], [8, 9]), ([], []), ([], []), ([], []), ([], []), ([], []), ([], []), ([], [10, 11]), ([], []), ([], []), ([], [12, 13]), ([], []), ([], [])]) (L2 := [(81, .bool true), (80, .tup []), (79, .tup []), (78, .tup []), (77, .tup []), (76, .tup []), (75, .tup []), (74, .tup []), (73, .bool true), (72, .bool true), (71, .tup []), (70, .tup []), (69, .tup []), (68, .tup []), (67, .bool true), (67, .bool (decide (¬ y63.2 = y66.2))), (66, .bool (decide (¬ y63.2 = y66.2))), (65, .bool (decide (¬ y63.2 = y66.2))), (64, .int .i64 y66.2), (63, .int .i64 y63.2), (62, .bool false), (62, .bool (!y154)), (61, .bool (!y154)), (60, .bool y154), (59, .agg [lsv (encI .u8) 1 y66.1.I_, lsv (encI .u8) 1 y66.1.F_, .int .i64 y66.1.W_, .int .i64 y66.1.C_]), (58, .agg [lsv (encI .u8) 1 y63.1.I_, lsv (encI .u8) 1 y63.1.F_, .int .i64 y63.1.W_, .int .i64 y63.1.C_]), (2, .bool false), (6, .ptr 0 0), (7, .int .u8 x0.Name_), (8, .bool y1), (9, .ptr 1 0), (10, .int .i64 y63.2), (11, .ptr 2 0), (12, .int .i64 y66.2), (13, .bool y69)]) (H2 := [.box [lsv (encI .u8) 1 x0.O_.I_, lsv (encI .u8) 1 x0.O_.F_, .int .i64 x0.O_.W_, .int .i64 x0.O_.C_], .box [lsv (encI .u8) 1 y63.1.I_, lsv (encI .u8) 1 y63.1.F_, .int .i64 y63.1.W_, .int .i64 y63.1.C_], .box [lsv (encI .u8) 1 y66.1.I_, lsv (encI .u8) 1 y66.1.F_, .int .i64 y66.1.W_, .int .i64 y66.1.C_], .res, .res, .res, .res]) (by kernel_rfl) ?_
            refine RJ.end (by kernel_rfl) ?_
            obtain rfl := Option.some.inj h161
            refine PJ.wk (Wk.sel (L2 := [(2, .bool false), (6, .ptr 0 0), (7, .int .u8 x0.Name_), (8, .bool y1), (13, .bool y69), (81, .bool true)]) (H2 := [.box [lsv (encI .u8) 1 x0.O_.I_, lsv (encI .u8) 1 x0.O_.F_, .int .i64 x0.O_.W_, .int .i64 x0.O_.C_]]) 0 (by rw [hFH]; rfl) hFD [0] (by kernel_rfl) (by kernel_rfl) (by decide) (by kernel_rfl) (by kernel_rfl) (by kernel_rfl) (by kernel_rfl)) ?_
            exact PJ.cutN [2, 6, 7, 8, 13, 81] (by kernel_rfl) (by kernel_rfl)
          · have h162 := condF hb160 h159
            refine RJ.segD 1 (tr2 := [([2, 3], []), ([4, 5], []), ([], [6, 7]), ([], []), ([], []), ([], []), ([], []), ([], []), ([], []), ([], []), ([0, 1], [])]) (L2 := [(68, .agg [lsv (encI .u8) 1 x0.O_.I_, lsv (encI .u8) 1 x0.O_.F_, .int .i64 x0.O_.W_, .int .i64 x0.O_.C_]), (67, .bool false), (67, .bool (decide (¬ y63.2 = y66.2))), (66, .bool (decide (¬ y63.2 = y66.2))), (65, .bool (decide (¬ y63.2 = y66.2))), (64, .int .i64 y66.2), (63, .int .i64 y63.2), (62, .bool false), (62, .bool (!y154)), (61, .bool (!y154)), (60, .bool y154), (59, .agg [lsv (encI .u8) 1 y66.1.I_, lsv (encI .u8) 1 y66.1.F_, .int .i64 y66.1.W_, .int .i64 y66.1.C_]), (58, .agg [lsv (encI .u8) 1 y63.1.I_, lsv (encI .u8) 1 y63.1.F_, .int .i64 y63.1.W_, .int .i64 y63.1.C_]), (2, .bool false), (6, .ptr 0 0), (7, .int .u8 x0.Name_), (8, .bool y1), (9, .ptr 1 0), (10, .int .i64 y63.2), (11, .ptr 2 0), (12, .int .i64 y66.2), (13, .bool y69)]) (H2 := [.box [lsv (encI .u8) 1 x0.O_.I_, lsv (encI .u8) 1 x0.O_.F_, .int .i64 x0.O_.W_, .int .i64 x0.O_.C_], .box [lsv (encI .u8) 1 y63.1.I_, lsv (encI .u8) 1 y63.1.F_, .int .i64 y63.1.W_, .int .i64 y63.1.C_], .box [lsv (encI .u8) 1 y66.1.I_, lsv (encI .u8) 1 y66.1.F_, .int .i64 y66.1.W_, .int .i64 y66.1.C_], .res, .res, .res, .res]) (by kernel_rfl) ?_
            obtain ⟨y163, hy164, h165⟩ := bindS h162
            refine RJ.call0 (d := (some 69)) (f := 16) (args := [.agg [lsv (encI .u8) 1 x0.O_.I_, lsv (encI .u8) 1 x0.O_.F_, .int .i64 x0.O_.W_, .int .i64 x0.O_.C_]]) (v := .bool y163) (tr2 := [([2, 3], []), ([4, 5], []), ([], [6, 7]), ([], []), ([], []), ([], []), ([], []), ([], []), ([], []), ([], []), ([0, 1], []), ([], [8, 9])]) (by kernel_rfl) (by kernel_rfl) (.cons (Le.refl _) .nil) (oper_Right_ok hy164) (by kernel_rfl) ?_
            refine RJ.segD 4 (tr2 := [([2, 3], []), ([4, 5], []), ([], [6, 7]), ([], []), ([], []), ([], []), ([], []), ([], []), ([], []), ([], []), ([0, 1], []), ([], [8, 9]), ([], []), ([], []), ([], []), ([], [])]) (L2 := [(73, .bool (y163 != y69)), (72, .bool (y163 != y69)), (71, .bool (y163 != y69)), (70, .bool y69), (69, .bool y163), (68, .agg [lsv (encI .u8) 1 x0.O_.I_, lsv (encI .u8) 1 x0.O_.F_, .int .i64 x0.O_.W_, .int .i64 x0.O_.C_]), (67, .bool false), (67, .bool (decide (¬ y63.2 = y66.2))), (66, .bool (decide (¬ y63.2 = y66.2))), (65, .bool (decide (¬ y63.2 = y66.2))), (64, .int .i64 y66.2), (63, .int .i64 y63.2), (62, .bool false), (62, .bool (!y154)), (61, .bool (!y154)), (60, .bool y154), (59, .agg [lsv (encI .u8) 1 y66.1.I_, lsv (encI .u8) 1 y66.1.F_, .int .i64 y66.1.W_, .int .i64 y66.1.C_]), (58, .agg [lsv (encI .u8) 1 y63.1.I_, lsv (encI .u8) 1 y63.1.F_, .int .i64 y63.1.W_, .int .i64 y63.1.C_]), (2, .bool false), (6, .ptr 0 0), (7, .int .u8 x0.Name_), (8, .bool y1), (9, .ptr 1 0), (10, .int .i64 y63.2), (11, .ptr 2 0), (12, .int .i64 y66.2), (13, .bool y69)]) (H2 := [.box [lsv (encI .u8) 1 x0.O_.I_, lsv (encI .u8) 1 x0.O_.F_, .int .i64 x0.O_.W_, .int .i64 x0.O_.C_], .box [lsv (encI .u8) 1 y63.1.I_, lsv (encI .u8) 1 y63.1.F_, .int .i64 y63.1.W_, .int .i64 y63.1.C_], .box [lsv (encI .u8) 1 y66.1.I_, lsv (encI .u8) 1 y66.1.F_, .int .i64 y66.1.W_, .int .i64 y66.1.C_], .res, .res, .res, .res]) (by kernel_rfl) ?_
            refine RJ.caseB 73 (b := (y163 != y69)) (by kernel_rfl) (fun hb166 => ?_) (fun hb166 => ?_)
            · have h167 := condT hb166 h165
              refine RJ.segD 8 (tr2 := [([2, 3], []), ([4, 5], []), ([], [6, 7]), ([], []), ([], []), ([], []), ([], []), ([], []), ([], []), ([], []), ([0, 1], []), ([], [8, 9]), ([], []), ([], []), ([], []), ([], []), ([], []), ([], []), ([], [10, 11]), ([], []), ([], []), ([], [12, 13]), ([], []), ([], [])]) (L2 := [(81, .bool true), (80, .tup []), (79, .tup []), (78, .tup []), (77, .tup []), (76, .tup []), (75, .tup []), (74, .tup []), (73, .bool true), (73, .bool (y163 != y69)), (72, .bool (y163 != y69)), (71, .bool (y163 != y69)), (70, .bool y69), (69, .bool y163), (68, .agg [lsv (encI .u8) 1 x0.O_.I_, lsv (encI .u8) 1 x0.O_.F_, .int .i64 x0.O_.W_, .int .i64 x0.O_.C_]), (67, .bool false), (67, .bool (decide (¬ y63.2 = y66.2))), (66, .bool (decide (¬ y63.2 = y66.2))), (65, .bool (decide (¬ y63.2 = y66.2))), (64, .int .i64 y66.2), (63, .int .i64 y63.2), (62, .bool false), (62, .bool (!y154)), (61, .bool (!y154)), (60, .bool y154), (59, .agg [lsv (encI .u8) 1 y66.1.I_, lsv (encI .u8) 1 y66.1.F_, .int .i64 y66.1.W_, .int .i64 y66.1.C_]), (58, .agg [lsv (encI .u8) 1 y63.1.I_, lsv (encI .u8) 1 y63.1.F_, .int .i64 y63.1.W_, .int .i64 y63.1.C_]), (2, .bool false), (6, .ptr 0 0), (7, .int .u8 x0.Name_), (8, .bool y1), (9, .ptr 1 0), (10, .int .i64 y63.2), (11, .ptr 2 0), (12, .int .i64 y66.2), (13, .bool y69)]) (H2 := [.box [lsv (encI .u8) 1 x0.O_.I_, lsv (encI .u8) 1 x0.O_.F_, .int .i64 x0.O_.W_, .int .i64 x0.O_.C_], .box [lsv (encI .u8) 1 y63.1.I_, lsv (encI .u8) 1 y63.1.F_, .int .i64 y63.1.W_, .int .i64 y63.1.C_], .box [lsv (encI .u8) 1 y66.1.I_, lsv (encI .u8) 1 y66.1.F_, .int .i64 y66.1.W_, .int .i64 y66.1.C_], .res, .res, .res, .res]) (by kernel_rfl) ?_
              refine RJ.end (by kernel_rfl) ?_
              obtain rfl := Option.some.inj h167
              refine PJ.wk (Wk.sel (L2 := [(2, .bool false), (6, .ptr 0 0), (7, .int .u8 x0.Name_), (8, .bool y1), (13, .bool y69), (81, .bool true)]) (H2 := [.box [lsv (encI .u8) 1 x0.O_.I_, lsv (encI .u8) 1 x0.O_.F_, .int .i64 x0.O_.W_, .int .i64 x0.O_.C_]]) 0 (by rw [hFH]; rfl) hFD [0] (by kernel_rfl) (by kernel_rfl) (by decide) (by kernel_rfl) (by kernel_rfl) (by kernel_rfl) (by kernel_rfl)) ?_
              exact PJ.cutN [2, 6, 7, 8, 13, 81] (by kernel_rfl) (by kernel_rfl)
            · have h168 := condF hb166 h165
              refine RJ.segD 2 (tr2 := [([2, 3], []), ([4, 5], []), ([], [6, 7]), ([], []), ([], []), ([], []), ([], []), ([], []), ([], []), ([], []), ([0, 1], []), ([], [8, 9]), ([], []), ([], []), ([], []), ([], []), ([2, 3], []), ([0, 1], [])]) (L2 := [(75, .agg [lsv (encI .u8) 1 x0.O_.I_, lsv (encI .u8) 1 x0.O_.F_, .int .i64 x0.O_.W_, .int .i64 x0.O_.C_]), (74, .agg [lsv (encI .u8) 1 y63.1.I_, lsv (encI .u8) 1 y63.1.F_, .int .i64 y63.1.W_, .int .i64 y63.1.C_]), (73, .bool false), (73, .bool (y163 != y69)), (72, .bool (y163 != y69)), (71, .bool (y163 != y69)), (70, .bool y69), (69, .bool y163), (68, .agg [lsv (encI .u8) 1 x0.O_.I_, lsv (encI .u8) 1 x0.O_.F_, .int .i64 x0.O_.W_, .int .i64 x0.O_.C_]), (67, .bool false), (67, .bool (decide (¬ y63.2 = y66.2))), (66, .bool (decide (¬ y63.2 = y66.2))), (65, .bool (decide (¬ y63.2 = y66.2))), (64, .int .i64 y66.2), (63, .int .i64 y63.2), (62, .bool false), (62, .bool (!y154)), (61, .bool (!y154)), (60, .bool y154), (59, .agg [lsv (encI .u8) 1 y66.1.I_, lsv (encI .u8) 1 y66.1.F_, .int .i64 y66.1.W_, .int .i64 y66.1.C_]), (58, .agg [lsv (encI .u8) 1 y63.1.I_, lsv (encI .u8) 1 y63.1.F_, .int .i64 y63.1.W_, .int .i64 y63.1.C_]), (2, .bool false), (6, .ptr 0 0), (7, .int .u8 x0.Name_), (8, .bool y1), (9, .ptr 1 0), (10, .int .i64 y63.2), (11, .ptr 2 0), (12, .int .i64 y66.2), (13, .bool y69)]) (H2 := [.box [lsv (encI .u8) 1 x0.O_.I_, lsv (encI .u8) 1 x0.O_.F_, .int .i64 x0.O_.W_, .int .i64 x0.O_.C_], .box [lsv (encI .u8) 1 y63.1.I_, lsv (encI .u8) 1 y63.1.F_, .int .i64 y63.1.W_, .int .i64 y63.1.C_], .box [lsv (encI .u8) 1 y66.1.I_, lsv (encI .u8) 1 y66.1.F_, .int .i64 y66.1.W_, .int .i64 y66.1.C_], .res, .res, .res, .res]) (by kernel_rfl) ?_
              obtain ⟨y169, hy170, h171⟩ := bindS h168
              refine RJ.call0 (d := (some 76)) (f := 17) (args := [.agg [lsv (encI .u8) 1 y63.1.I_, lsv (encI .u8) 1 y63.1.F_, .int .i64 y63.1.W_, .int .i64 y63.1.C_], .agg [lsv (encI .u8) 1 x0.O_.I_, lsv (encI .u8) 1 x0.O_.F_, .int .i64 x0.O_.W_, .int .i64 x0.O_.C_]]) (v := .bool y169) (tr2 := [([2, 3], []), ([4, 5], []), ([], [6, 7]), ([], []), ([], []), ([], []), ([], []), ([], []), ([], []), ([], []), ([0, 1], []), ([], [8, 9]), ([], []), ([], []), ([], []), ([], []), ([2, 3], []), ([0, 1], []), ([], [10, 11])]) (by kernel_rfl) (by kernel_rfl) (.cons (Le.refl _) (.cons (Le.refl _) .nil)) (oper_Same_ok hy170) (by kernel_rfl) ?_
              refine RJ.segD 2 (tr2 := [([2, 3], []), ([4, 5], []), ([], [6, 7]), ([], []), ([], []), ([], []), ([], []), ([], []), ([], []), ([], []), ([0, 1], []), ([], [8, 9]), ([], []), ([], []), ([], []), ([], []), ([2, 3], []), ([0, 1], []), ([], [10, 11]), ([2, 3], []), ([0, 1], [])]) (L2 := [(78, .agg [lsv (encI .u8) 1 x0.O_.I_, lsv (encI .u8) 1 x0.O_.F_, .int .i64 x0.O_.W_, .int .i64 x0.O_.C_]), (77, .agg [lsv (encI .u8) 1 y63.1.I_, lsv (encI .u8) 1 y63.1.F_, .int .i64 y63.1.W_, .int .i64 y63.1.C_]), (76, .bool y169), (75, .agg [lsv (encI .u8) 1 x0.O_.I_, lsv (encI .u8) 1 x0.O_.F_, .int .i64 x0.O_.W_, .int .i64 x0.O_.C_]), (74, .agg [lsv (encI .u8) 1 y63.1.I_, lsv (encI .u8) 1 y63.1.F_, .int .i64 y63.1.W_, .int .i64 y63.1.C_]), (73, .bool false), (73, .bool (y163 != y69)), (72, .bool (y163 != y69)), (71, .bool (y163 != y69)), (70, .bool y69), (69, .bool y163), (68, .agg [lsv (encI .u8) 1 x0.O_.I_, lsv (encI .u8) 1 x0.O_.F_, .int .i64 x0.O_.W_, .int .i64 x0.O_.C_]), (67, .bool false), (67, .bool (decide (¬ y63.2 = y66.2))), (66, .bool (decide (¬ y63.2 = y66.2))), (65, .bool (decide (¬ y63.2 = y66.2))), (64, .int .i64 y66.2), (63, .int .i64 y63.2), (62, .bool false), (62, .bool (!y154)), (61, .bool (!y154)), (60, .bool y154), (59, .agg [lsv (encI .u8) 1 y66.1.I_, lsv (encI .u8) 1 y66.1.F_, .int .i64 y66.1.W_, .int .i64 y66.1.C_]), (58, .agg [lsv (encI .u8) 1 y63.1.I_, lsv (encI .u8) 1 y63.1.F_, .int .i64 y63.1.W_, .int .i64 y63.1.C_]), (2, .bool false), (6, .ptr 0 0), (7, .int .u8 x0.Name_), (8, .bool y1), (9, .ptr 1 0), (10, .int .i64 y63.2), (11, .ptr 2 0), (12, .int .i64 y66.2), (13, .bool y69)]) (H2 := [.box [lsv (encI .u8) 1 x0.O_.I_, lsv (encI .u8) 1 x0.O_.F_, .int .i64 x0.O_.W_, .int .i64 x0.O_.C_], .box [lsv (encI .u8) 1 y63.1.I_, lsv (encI .u8) 1 y63.1.F_, .int .i64 y63.1.W_, .int .i64 y63.1.C_], .box [lsv (encI .u8) 1 y66.1.I_, lsv (encI .u8) 1 y66.1.F_, .int .i64 y66.1.W_, .int .i64 y66.1.C_], .res, .res, .res, .res]) (by kernel_rfl) ?_
              obtain ⟨y172, hy173, h174⟩ := bindS h171
              refine RJ.call0 (d := (some 79)) (f := 15) (args := [.agg [lsv (encI .u8) 1 y63.1.I_, lsv (encI .u8) 1 y63.1.F_, .int .i64 y63.1.W_, .int .i64 y63.1.C_], .agg [lsv (encI .u8) 1 x0.O_.I_, lsv (encI .u8) 1 x0.O_.F_, .int .i64 x0.O_.W_, .int .i64 x0.O_.C_]]) (v := .bool y172) (tr2 := [([2, 3], []), ([4, 5], []), ([], [6, 7]), ([], []), ([], []), ([], []), ([], []), ([], []), ([], []), ([], []), ([0, 1], []), ([], [8, 9]), ([], []), ([], []), ([], []), ([], []), ([2, 3], []), ([0, 1], []), ([], [10, 11]), ([2, 3], []), ([0, 1], []), ([], [12, 13])]) (by kernel_rfl) (by kernel_rfl) (.cons (Le.refl _) (.cons (Le.refl _) .nil)) (exergueref07_Same_ok hy173) (by kernel_rfl) ?_
              refine RJ.segD 2 (tr2 := [([2, 3], []), ([4, 5], []), ([], [6, 7]), ([], []), ([], []), ([], []), ([], []), ([], []), ([], []), ([], []), ([0, 1], []), ([], [8, 9]), ([], []), ([], []), ([], []), ([], []), ([2, 3], []), ([0, 1], []), ([], [10, 11]), ([2, 3], []), ([0, 1], []), ([], [12, 13]), ([], []), ([], [])]) (L2 := [(81, .bool (y169 != y172)), (80, .bool (y169 != y172)), (79, .bool y172), (78, .agg [lsv (encI .u8) 1 x0.O_.I_, lsv (encI .u8) 1 x0.O_.F_, .int .i64 x0.O_.W_, .int .i64 x0.O_.C_]), (77, .agg [lsv (encI .u8) 1 y63.1.I_, lsv (encI .u8) 1 y63.1.F_, .int .i64 y63.1.W_, .int .i64 y63.1.C_]), (76, .bool y169), (75, .agg [lsv (encI .u8) 1 x0.O_.I_, lsv (encI .u8) 1 x0.O_.F_, .int .i64 x0.O_.W_, .int .i64 x0.O_.C_]), (74, .agg [lsv (encI .u8) 1 y63.1.I_, lsv (encI .u8) 1 y63.1.F_, .int .i64 y63.1.W_, .int .i64 y63.1.C_]), (73, .bool false), (73, .bool (y163 != y69)), (72, .bool (y163 != y69)), (71, .bool (y163 != y69)), (70, .bool y69), (69, .bool y163), (68, .agg [lsv (encI .u8) 1 x0.O_.I_, lsv (encI .u8) 1 x0.O_.F_, .int .i64 x0.O_.W_, .int .i64 x0.O_.C_]), (67, .bool false), (67, .bool (decide (¬ y63.2 = y66.2))), (66, .bool (decide (¬ y63.2 = y66.2))), (65, .bool (decide (¬ y63.2 = y66.2))), (64, .int .i64 y66.2), (63, .int .i64 y63.2), (62, .bool false), (62, .bool (!y154)), (61, .bool (!y154)), (60, .bool y154), (59, .agg [lsv (encI .u8) 1 y66.1.I_, lsv (encI .u8) 1 y66.1.F_, .int .i64 y66.1.W_, .int .i64 y66.1.C_]), (58, .agg [lsv (encI .u8) 1 y63.1.I_, lsv (encI .u8) 1 y63.1.F_, .int .i64 y63.1.W_, .int .i64 y63.1.C_]), (2, .bool false), (6, .ptr 0 0), (7, .int .u8 x0.Name_), (8, .bool y1), (9, .ptr 1 0), (10, .int .i64 y63.2), (11, .ptr 2 0), (12, .int .i64 y66.2), (13, .bool y69)]) (H2 := [.box [lsv (encI .u8) 1 x0.O_.I_, lsv (encI .u8) 1 x0.O_.F_, .int .i64 x0.O_.W_, .int .i64 x0.O_.C_], .box [lsv (encI .u8) 1 y63.1.I_, lsv (encI .u8) 1 y63.1.F_, .int .i64 y63.1.W_, .int .i64 y63.1.C_], .box [lsv (encI .u8) 1 y66.1.I_, lsv (encI .u8) 1 y66.1.F_, .int .i64 y66.1.W_, .int .i64 y66.1.C_], .res, .res, .res, .res]) (by kernel_rfl) ?_
              refine RJ.end (by kernel_rfl) ?_
              obtain rfl := Option.some.inj h174
              refine PJ.wk (Wk.sel (L2 := [(2, .bool false), (6, .ptr 0 0), (7, .int .u8 x0.Name_), (8, .bool y1), (13, .bool y69), (81, .bool (y169 != y172))]) (H2 := [.box [lsv (encI .u8) 1 x0.O_.I_, lsv (encI .u8) 1 x0.O_.F_, .int .i64 x0.O_.W_, .int .i64 x0.O_.C_]]) 0 (by rw [hFH]; rfl) hFD [0] (by kernel_rfl) (by kernel_rfl) (by decide) (by kernel_rfl) (by kernel_rfl) (by kernel_rfl) (by kernel_rfl)) ?_
              exact PJ.cutN [2, 6, 7, 8, 13, 81] (by kernel_rfl) (by kernel_rfl)
      · refine J.caseB 81 (b := s149) (by kernel_rfl) (fun hb175 => ?_) (fun hb175 => ?_)
        · have h176 := condT hb175 h153
          refine K.condT (by kernel_rfl) ?_
          refine K.seq (by kernel_rfl) ?_
          refine K.region (by kernel_rfl) ?_
          refine RJ.seg 1 [2, 6, 7, 8, 13] (L2 := [(2, .bool false), (6, .ptr 0 0), (7, .int .u8 x0.Name_), (8, .bool y1), (13, .bool y69)]) (H2 := [.box [lsv (encI .u8) 1 x0.O_.I_, lsv (encI .u8) 1 x0.O_.F_, .int .i64 x0.O_.W_, .int .i64 x0.O_.C_]]) (by kernel_rfl) ?_
          refine RJ.end (by kernel_rfl) ?_
          refine PJ.next ?_
          refine K.ret (by kernel_rfl) ?_
          obtain rfl := Option.some.inj h176
          have h178 := joinX_inr h126
          refine PJ.cutXr (fun e => nomatch e) ?_
          obtain rfl := Option.some.inj h178
          exact K.ret0 (.inr rfl) hFn hFH hFD (by kernel_rfl) (by kernel_rfl) (by kernel_rfl)
        · have h177 := condF hb175 h153
          refine K.condF (by kernel_rfl) ?_
          refine K.skip (by kernel_rfl) ?_
          obtain rfl := Option.some.inj h177
          exact PJ.cutXl [2, 6, 7, 8, 13] (by kernel_rfl) (by kernel_rfl)
    · subst hs
      have h127 := joinX_inl h126
      refine K.seq (by kernel_rfl) ?_
      refine K.seq (by kernel_rfl) ?_
      refine K.region (by kernel_rfl) ?_
      refine RJ.seg 2 [2, 6, 7, 8, 83] (L2 := [(2, .bool false), (6, .ptr 0 0), (7, .int .u8 x0.Name_), (8, .bool y1), (83, .bool (!y69))]) (H2 := [.box [lsv (encI .u8) 1 x0.O_.I_, lsv (encI .u8) 1 x0.O_.F_, .int .i64 x0.O_.W_, .int .i64 x0.O_.C_]]) (by kernel_rfl) ?_
      refine RJ.end (by kernel_rfl) ?_
      refine PJ.next ?_
      refine J.caseB 83 (b := (!y69)) (by kernel_rfl) (fun hb179 => ?_) (fun hb179 => ?_)
      · have h180 := condT hb179 h127
        refine K.condT (by kernel_rfl) ?_
        refine K.seq (by kernel_rfl) ?_
        refine K.region (by kernel_rfl) ?_
        refine RJ.seg 2 [2, 6, 7, 8] (L2 := [(2, .bool y1), (6, .ptr 0 0), (7, .int .u8 x0.Name_), (8, .bool y1)]) (H2 := [.box [lsv (encI .u8) 1 x0.O_.I_, lsv (encI .u8) 1 x0.O_.F_, .int .i64 x0.O_.W_, .int .i64 x0.O_.C_]]) (by kernel_rfl) ?_
        refine RJ.end (by kernel_rfl) ?_
        refine PJ.next ?_
        refine K.ret (by kernel_rfl) ?_
        refine PJ.passRet ?_
        obtain rfl := Option.some.inj h180
        exact K.ret0 (.inr rfl) hFn hFH hFD (by kernel_rfl) (by kernel_rfl) (by kernel_rfl)
      · have h181 := condF hb179 h127
        refine K.condF (by kernel_rfl) ?_
        refine K.skip (by kernel_rfl) ?_
        refine PJ.next ?_
        refine K.seq (by kernel_rfl) ?_
        refine K.region (by kernel_rfl) ?_
        refine RJ.seg 2 [2, 6, 7, 8, 86, 87] (L2 := [(2, .bool false), (6, .ptr 0 0), (7, .int .u8 x0.Name_), (8, .bool y1), (86, .agg [lsv (encI .u8) 1 x0.O_.I_, lsv (encI .u8) 1 x0.O_.F_, .int .i64 x0.O_.W_, .int .i64 x0.O_.C_]), (87, .int .u8 x0.Name_)]) (H2 := [.box [lsv (encI .u8) 1 x0.O_.I_, lsv (encI .u8) 1 x0.O_.F_, .int .i64 x0.O_.W_, .int .i64 x0.O_.C_]]) (by kernel_rfl) ?_
        obtain ⟨y182, hy183, h184⟩ := bindS h181
        refine RJ.call0 (d := (some 88)) (f := 18) (args := [.agg [lsv (encI .u8) 1 x0.O_.I_, lsv (encI .u8) 1 x0.O_.F_, .int .i64 x0.O_.W_, .int .i64 x0.O_.C_], .int .u8 x0.Name_]) (v := .tup [lsv (encI .u8) 1 y182.1, .bool y182.2]) (tr2 := []) (by kernel_rfl) (by kernel_rfl) (.cons (Le.refl _) (.cons (Le.refl _) .nil)) (oper_Operand_ok hy183) (by kernel_rfl) ?_
        refine RJ.seg 5 [2, 6, 7, 8, 14, 15] (L2 := [(2, .bool false), (6, .ptr 0 0), (7, .int .u8 x0.Name_), (8, .bool y1), (14, lsv (encI .u8) 1 y182.1), (15, .bool y182.2)]) (H2 := [.box [lsv (encI .u8) 1 x0.O_.I_, lsv (encI .u8) 1 x0.O_.F_, .int .i64 x0.O_.W_, .int .i64 x0.O_.C_]]) (by kernel_rfl) ?_
        refine RJ.end (by kernel_rfl) ?_
        refine PJ.next ?_
        refine K.seq (by kernel_rfl) ?_
        refine K.region (by kernel_rfl) ?_
        refine RJ.seg 2 [2, 8, 14, 15, 92, 93] (L2 := [(2, .bool false), (8, .bool y1), (14, lsv (encI .u8) 1 y182.1), (15, .bool y182.2), (92, .agg [lsv (encI .u8) 1 x0.O_.I_, lsv (encI .u8) 1 x0.O_.F_, .int .i64 x0.O_.W_, .int .i64 x0.O_.C_]), (93, .int .u8 x0.Name_)]) (H2 := [.box [lsv (encI .u8) 1 x0.O_.I_, lsv (encI .u8) 1 x0.O_.F_, .int .i64 x0.O_.W_, .int .i64 x0.O_.C_]]) (by kernel_rfl) ?_
        obtain ⟨y185, hy186, h187⟩ := bindS h184
        refine RJ.call0 (d := (some 94)) (f := 19) (args := [.agg [lsv (encI .u8) 1 x0.O_.I_, lsv (encI .u8) 1 x0.O_.F_, .int .i64 x0.O_.W_, .int .i64 x0.O_.C_], .int .u8 x0.Name_]) (v := .tup [lsv (encI .u8) 1 y185.1, .bool y185.2]) (tr2 := []) (by kernel_rfl) (by kernel_rfl) (.cons (Le.refl _) (.cons (Le.refl _) .nil)) (exergueref07_Operand_ok hy186) (by kernel_rfl) ?_
        refine RJ.seg 5 [2, 8, 14, 15, 16, 17] (L2 := [(2, .bool false), (8, .bool y1), (14, lsv (encI .u8) 1 y182.1), (15, .bool y182.2), (16, lsv (encI .u8) 1 y185.1), (17, .bool y185.2)]) (H2 := [.box [lsv (encI .u8) 1 x0.O_.I_, lsv (encI .u8) 1 x0.O_.F_, .int .i64 x0.O_.W_, .int .i64 x0.O_.C_]]) (by kernel_rfl) ?_
        refine RJ.end (by kernel_rfl) ?_
        refine PJ.next ?_
        obtain ⟨s197, hy199, h201⟩ := bindS h187
        refine K.cutN (by kernel_rfl) (fun (s197 : Bool) => ([(2, .bool s197)], [])) s197 ?_ ?_
        · refine K.region (by kernel_rfl) ?_
          refine RJ.seg 2 [2, 14, 15, 16, 17, 98] (L2 := [(2, .bool false), (14, lsv (encI .u8) 1 y182.1), (15, .bool y182.2), (16, lsv (encI .u8) 1 y185.1), (17, .bool y185.2), (98, .bool y1)]) (H2 := [.box [lsv (encI .u8) 1 x0.O_.I_, lsv (encI .u8) 1 x0.O_.F_, .int .i64 x0.O_.W_, .int .i64 x0.O_.C_]]) (by kernel_rfl) ?_
          refine RJ.caseB 98 (b := y1) (by kernel_rfl) (fun hb202 => ?_) (fun hb202 => ?_)
          · have h203 := condT hb202 hy199
            refine RJ.seg 2 [2, 15, 17, 98, 99, 100] (L2 := [(2, .bool false), (15, .bool y182.2), (17, .bool y185.2), (98, .bool true), (99, lsv (encI .u8) 1 y182.1), (100, lsv (encI .u8) 1 y185.1)]) (H2 := [.box [lsv (encI .u8) 1 x0.O_.I_, lsv (encI .u8) 1 x0.O_.F_, .int .i64 x0.O_.W_, .int .i64 x0.O_.C_]]) (by kernel_rfl) ?_
            obtain ⟨y205, hy206, h207⟩ := bindS h203
            refine RJ.call0 (d := (some 101)) (f := 20) (args := [lsv (encI .u8) 1 y182.1, lsv (encI .u8) 1 y185.1]) (v := .bool y205) (tr2 := []) (by kernel_rfl) (by kernel_rfl) (.cons (Le.refl _) (.cons (Le.refl _) .nil)) (exergueref01_Row_ok hy206) (by kernel_rfl) ?_
            refine RJ.seg 2 [2, 15, 17, 103] (L2 := [(2, .bool false), (15, .bool y182.2), (17, .bool y185.2), (103, .bool y205)]) (H2 := [.box [lsv (encI .u8) 1 x0.O_.I_, lsv (encI .u8) 1 x0.O_.F_, .int .i64 x0.O_.W_, .int .i64 x0.O_.C_]]) (by kernel_rfl) ?_
            refine RJ.caseB 103 (b := y205) (by kernel_rfl) (fun hb208 => ?_) (fun hb208 => ?_)
            · have h209 := condT hb208 h207
              refine RJ.seg 5 [2] (L2 := [(2, .bool (y182.2 == y185.2))]) (H2 := [.box [lsv (encI .u8) 1 x0.O_.I_, lsv (encI .u8) 1 x0.O_.F_, .int .i64 x0.O_.W_, .int .i64 x0.O_.C_]]) (by kernel_rfl) ?_
              refine RJ.end (by kernel_rfl) ?_
              obtain rfl := Option.some.inj h209
              refine PJ.wk (Wk.sel (L2 := [(2, .bool (y182.2 == y185.2))]) (H2 := []) 0 (by rw [hFH]; rfl) hFD [] (by kernel_rfl) (by kernel_rfl) (by decide) (by kernel_rfl) (by kernel_rfl) (by kernel_rfl) (by kernel_rfl)) ?_
              exact PJ.cutN [2] (by kernel_rfl) (by kernel_rfl)
            · have h210 := condF hb208 h207
              refine RJ.seg 5 [2] (L2 := [(2, .bool false)]) (H2 := [.box [lsv (encI .u8) 1 x0.O_.I_, lsv (encI .u8) 1 x0.O_.F_, .int .i64 x0.O_.W_, .int .i64 x0.O_.C_]]) (by kernel_rfl) ?_
              refine RJ.end (by kernel_rfl) ?_
              obtain rfl := Option.some.inj h210
              refine PJ.wk (Wk.sel (L2 := [(2, .bool false)]) (H2 := []) 0 (by rw [hFH]; rfl) hFD [] (by kernel_rfl) (by kernel_rfl) (by decide) (by kernel_rfl) (by kernel_rfl) (by kernel_rfl) (by kernel_rfl)) ?_
              exact PJ.cutN [2] (by kernel_rfl) (by kernel_rfl)
          · have h204 := condF hb202 hy199
            refine RJ.seg 10 [2] (L2 := [(2, .bool false)]) (H2 := [.box [lsv (encI .u8) 1 x0.O_.I_, lsv (encI .u8) 1 x0.O_.F_, .int .i64 x0.O_.W_, .int .i64 x0.O_.C_]]) (by kernel_rfl) ?_
            refine RJ.end (by kernel_rfl) ?_
            obtain rfl := Option.some.inj h204
            refine PJ.wk (Wk.sel (L2 := [(2, .bool false)]) (H2 := []) 0 (by rw [hFH]; rfl) hFD [] (by kernel_rfl) (by kernel_rfl) (by decide) (by kernel_rfl) (by kernel_rfl) (by kernel_rfl) (by kernel_rfl)) ?_
            exact PJ.cutN [2] (by kernel_rfl) (by kernel_rfl)
        · refine K.ret (by kernel_rfl) ?_
          obtain rfl := Option.some.inj h201
          exact K.ret0 (.inr rfl) hFn hFH hFD (by kernel_rfl) (by kernel_rfl) (by kernel_rfl)

structure St39 where
  L_ : List Int
  M_ : Int
  From_ : Int
  To_ : Int
  deriving Inhabited, DecidableEq
def encSt39 (x : St39) : List SV := [lsv (encI .u8) 1 x.L_, .int .i64 x.M_, .int .i64 x.From_, .int .i64 x.To_]
theorem encSt39_len (x : St39) : (encSt39 x).length = 4 := rfl

def exergueref07_Mod (x0 : List Int) (x1 : Int) : Option (Int) :=
  (bif nz x1 then (Option.bind (loopN (fun (s34 : Int × Int × Int) => (bif (decide (s34.2.2 ≥ 0)) then (bif inR s34.2.2 x0.length then (bif nz x1 then (bif nz x1 then (some (.inl ((Int.tmod ((IntKind.wrap .i64 (s34.1 + ((IntKind.wrap .i64 ((IntKind.wrap .i64 (nth x0 s34.2.2)) * s34.2.1)))))) x1), (Int.tmod (IntKind.wrap .i64 (s34.2.1 * 10)) x1), (IntKind.wrap .i64 (s34.2.2 - 1))))) else none) else none) else none) else (some (.inr s34.1)))) big (0, (Int.tmod 1 x1), (IntKind.wrap .i64 ((x0.length : Int) - 1)))) fun (s29 : Int) => (some s29)) else none)
theorem exergueref07_Mod_ok {x0 : List Int} {x1 : Int} {r : Int} (h : exergueref07_Mod x0 x1 = some r) : SC Try.prog 23 [lsv (encI .u8) 1 x0, .int .i64 x1] [] (.int .i64 r) [] := by
  refine K.fn (fn := Try.f23) (by kernel_rfl) (by kernel_rfl) (by kernel_rfl) (by kernel_rfl) (by kernel_rfl) (fun F hFn hFH hFD => ?_)
  unfold exergueref07_Mod at h
  refine K.seq (by kernel_rfl) ?_
  refine K.region (by kernel_rfl) ?_
  refine RJ.seg 1 [0, 1, 4] (L2 := [(0, lsv (encI .u8) 1 x0), (1, .int .i64 x1), (4, .int .i64 0)]) (H2 := []) (by kernel_rfl) ?_
  refine RJ.end (by kernel_rfl) ?_
  refine PJ.next ?_
  refine K.seq (by kernel_rfl) ?_
  refine K.region (by kernel_rfl) ?_
  refine RJ.seg 1 [0, 1, 4, 5] (L2 := [(0, lsv (encI .u8) 1 x0), (1, .int .i64 x1), (4, .int .i64 0), (5, .int .i64 0)]) (H2 := []) (by kernel_rfl) ?_
  refine RJ.end (by kernel_rfl) ?_
  refine PJ.next ?_
  refine K.seq (by kernel_rfl) ?_
  refine K.region (by kernel_rfl) ?_
  refine RJ.seg 1 [0, 1, 4, 5, 8] (L2 := [(0, lsv (encI .u8) 1 x0), (1, .int .i64 x1), (4, .int .i64 0), (5, .int .i64 0), (8, .int .i64 x1)]) (H2 := []) (by kernel_rfl) ?_
  obtain ⟨hm, h1⟩ := asrt h
  refine RJ.rel (d := (some 9)) (ef := ⟨.int .i64 (Int.tmod 1 x1), [], []⟩) (ef' := ⟨.int .i64 (Int.tmod 1 x1), [], []⟩) (c := nz x1) (tr2 := []) (H2 := []) (by kernel_rfl) hm (fun hc => rfl) (by kernel_rfl) ?_
  refine RJ.seg 1 [0, 1, 4, 5, 6] (L2 := [(0, lsv (encI .u8) 1 x0), (1, .int .i64 x1), (4, .int .i64 0), (5, .int .i64 0), (6, .int .i64 (Int.tmod 1 x1))]) (H2 := []) (by kernel_rfl) ?_
  refine RJ.end (by kernel_rfl) ?_
  refine PJ.next ?_
  obtain ⟨s29, hy31, h33⟩ := bindS h1
  refine K.cutN (by kernel_rfl) (fun (s29 : Int) => ([(4, .int .i64 0), (5, .int .i64 s29)], [])) s29 ?_ ?_
  · refine K.seq (by kernel_rfl) ?_
    refine K.region (by kernel_rfl) ?_
    refine RJ.seg 4 [0, 1, 4, 5, 6, 7] (L2 := [(0, lsv (encI .u8) 1 x0), (1, .int .i64 x1), (4, .int .i64 0), (5, .int .i64 0), (6, .int .i64 (Int.tmod 1 x1)), (7, .int .i64 ((IntKind.wrap .i64 ((x0.length : Int) - 1))))]) (H2 := []) (by kernel_rfl) ?_
    refine RJ.end (by kernel_rfl) ?_
    refine PJ.next ?_
    refine K.block 0 (by kernel_rfl) ?_
    refine K.loop (by kernel_rfl) (fun (s34 : Int × Int × Int) => ([(0, lsv (encI .u8) 1 x0), (1, .int .i64 x1), (4, .int .i64 0), (5, .int .i64 s34.1), (6, .int .i64 s34.2.1), (7, .int .i64 s34.2.2)], [])) hy31 [0, 1, 4, 5, 6, 7] (by kernel_rfl) (by kernel_rfl) (fun s34 x52 hs51 => ?_)
    refine K.seq (by kernel_rfl) ?_
    refine K.seq (by kernel_rfl) ?_
    refine K.region (by kernel_rfl) ?_
    refine RJ.seg 2 [0, 1, 4, 5, 6, 7, 14] (L2 := [(0, lsv (encI .u8) 1 x0), (1, .int .i64 x1), (4, .int .i64 0), (5, .int .i64 s34.1), (6, .int .i64 s34.2.1), (7, .int .i64 s34.2.2), (14, .bool (decide (s34.2.2 ≥ 0)))]) (H2 := []) (by kernel_rfl) ?_
    refine RJ.end (by kernel_rfl) ?_
    refine PJ.next ?_
    refine J.caseB 14 (b := (decide (s34.2.2 ≥ 0))) (by kernel_rfl) (fun hb53 => ?_) (fun hb53 => ?_)
    · have h54 := condT hb53 hs51
      refine K.condT (by kernel_rfl) ?_
      refine K.skip (by kernel_rfl) ?_
      refine PJ.next ?_
      refine K.seq (by kernel_rfl) ?_
      refine K.block 1 (by kernel_rfl) ?_
      refine K.seq (by kernel_rfl) ?_
      refine K.region (by kernel_rfl) ?_
      refine RJ.seg 3 [0, 1, 4, 5, 6, 7, 17, 18, 19] (L2 := [(0, lsv (encI .u8) 1 x0), (1, .int .i64 x1), (4, .int .i64 0), (5, .int .i64 s34.1), (6, .int .i64 s34.2.1), (7, .int .i64 s34.2.2), (17, .int .i64 s34.1), (18, lsv (encI .u8) 1 x0), (19, .int .i64 s34.2.2)]) (H2 := []) (by kernel_rfl) ?_
      obtain ⟨hm, h56⟩ := asrt h54
      refine RJ.rel (d := (some 20)) (ef := ⟨.ep (((x0.flatMap (encI .u8)).drop ((s34.2.2 : Int).toNat * 1)).take 1), [], []⟩) (ef' := ⟨.ep ((encI .u8) (nth x0 s34.2.2)), [], []⟩) (c := inR s34.2.2 x0.length) (tr2 := []) (H2 := []) (by kernel_rfl) hm (fun hc => N.idx (encI_len .u8) hc) (by kernel_rfl) ?_
      refine RJ.seg 6 [0, 1, 4, 5, 6, 7, 25, 26] (L2 := [(0, lsv (encI .u8) 1 x0), (1, .int .i64 x1), (4, .int .i64 0), (5, .int .i64 s34.1), (6, .int .i64 s34.2.1), (7, .int .i64 s34.2.2), (25, .int .i64 ((IntKind.wrap .i64 (s34.1 + ((IntKind.wrap .i64 ((IntKind.wrap .i64 (nth x0 s34.2.2)) * s34.2.1))))))), (26, .int .i64 x1)]) (H2 := []) (by kernel_rfl) ?_
      obtain ⟨hm, h57⟩ := asrt h56
      refine RJ.rel (d := (some 27)) (ef := ⟨.int .i64 (Int.tmod ((IntKind.wrap .i64 (s34.1 + ((IntKind.wrap .i64 ((IntKind.wrap .i64 (nth x0 s34.2.2)) * s34.2.1)))))) x1), [], []⟩) (ef' := ⟨.int .i64 (Int.tmod ((IntKind.wrap .i64 (s34.1 + ((IntKind.wrap .i64 ((IntKind.wrap .i64 (nth x0 s34.2.2)) * s34.2.1)))))) x1), [], []⟩) (c := nz x1) (tr2 := []) (H2 := []) (by kernel_rfl) hm (fun hc => rfl) (by kernel_rfl) ?_
      refine RJ.seg 1 [0, 1, 4, 5, 6, 7] (L2 := [(0, lsv (encI .u8) 1 x0), (1, .int .i64 x1), (4, .int .i64 0), (5, .int .i64 ((Int.tmod ((IntKind.wrap .i64 (s34.1 + ((IntKind.wrap .i64 ((IntKind.wrap .i64 (nth x0 s34.2.2)) * s34.2.1)))))) x1))), (6, .int .i64 s34.2.1), (7, .int .i64 s34.2.2)]) (H2 := []) (by kernel_rfl) ?_
      refine RJ.end (by kernel_rfl) ?_
      refine PJ.next ?_
      refine K.region (by kernel_rfl) ?_
      refine RJ.seg 3 [0, 1, 4, 5, 6, 7, 29, 30] (L2 := [(0, lsv (encI .u8) 1 x0), (1, .int .i64 x1), (4, .int .i64 0), (5, .int .i64 ((Int.tmod ((IntKind.wrap .i64 (s34.1 + ((IntKind.wrap .i64 ((IntKind.wrap .i64 (nth x0 s34.2.2)) * s34.2.1)))))) x1))), (6, .int .i64 s34.2.1), (7, .int .i64 s34.2.2), (29, .int .i64 (IntKind.wrap .i64 (s34.2.1 * 10))), (30, .int .i64 x1)]) (H2 := []) (by kernel_rfl) ?_
      obtain ⟨hm, h58⟩ := asrt h57
      refine RJ.rel (d := (some 31)) (ef := ⟨.int .i64 (Int.tmod (IntKind.wrap .i64 (s34.2.1 * 10)) x1), [], []⟩) (ef' := ⟨.int .i64 (Int.tmod (IntKind.wrap .i64 (s34.2.1 * 10)) x1), [], []⟩) (c := nz x1) (tr2 := []) (H2 := []) (by kernel_rfl) hm (fun hc => rfl) (by kernel_rfl) ?_
      refine RJ.seg 1 [0, 1, 4, 5, 6, 7] (L2 := [(0, lsv (encI .u8) 1 x0), (1, .int .i64 x1), (4, .int .i64 0), (5, .int .i64 ((Int.tmod ((IntKind.wrap .i64 (s34.1 + ((IntKind.wrap .i64 ((IntKind.wrap .i64 (nth x0 s34.2.2)) * s34.2.1)))))) x1))), (6, .int .i64 ((Int.tmod (IntKind.wrap .i64 (s34.2.1 * 10)) x1))), (7, .int .i64 s34.2.2)]) (H2 := []) (by kernel_rfl) ?_
      refine RJ.end (by kernel_rfl) ?_
      refine PJ.blockNormal ?_
      refine PJ.next ?_
      refine K.region (by kernel_rfl) ?_
      refine RJ.seg 3 [0, 1, 4, 5, 6, 7] (L2 := [(0, lsv (encI .u8) 1 x0), (1, .int .i64 x1), (4, .int .i64 0), (5, .int .i64 ((Int.tmod ((IntKind.wrap .i64 (s34.1 + ((IntKind.wrap .i64 ((IntKind.wrap .i64 (nth x0 s34.2.2)) * s34.2.1)))))) x1))), (6, .int .i64 ((Int.tmod (IntKind.wrap .i64 (s34.2.1 * 10)) x1))), (7, .int .i64 (IntKind.wrap .i64 (s34.2.2 - 1)))]) (H2 := []) (by kernel_rfl) ?_
      refine RJ.end (by kernel_rfl) ?_
      obtain rfl := Option.some.inj h58
      exact PJ.loopNext [0, 1, 4, 5, 6, 7] (by kernel_rfl) (by kernel_rfl)
    · have h55 := condF hb53 hs51
      refine K.condF (by kernel_rfl) ?_
      refine K.exit 0 (by kernel_rfl) ?_
      refine PJ.passExit ?_
      obtain rfl := Option.some.inj h55
      refine PJ.loopOut (fun e => nomatch e) (fun he60 => ?_)
      have h59 := congrArg some he60
      refine PJ.blockOut ?_
      obtain rfl := Option.some.inj h59
      exact PJ.cutN [4, 5] (by kernel_rfl) (by kernel_rfl)
  · refine K.seq (by kernel_rfl) ?_
    refine K.region (by kernel_rfl) ?_
    refine RJ.seg 2 [4] (L2 := [(4, .int .i64 s29)]) (H2 := []) (by kernel_rfl) ?_
    refine RJ.end (by kernel_rfl) ?_
    refine PJ.next ?_
    refine K.ret (by kernel_rfl) ?_
    obtain rfl := Option.some.inj h33
    exact K.ret0 (.inr rfl) hFn hFH hFD (by kernel_rfl) (by kernel_rfl) (by kernel_rfl)

def exergueref07_In (x0 : List Int) (x1 : Int) (x2 : Int) : Option (Bool) :=
  (Option.bind (exergueref07_Bare x0) fun y1 => (bif (decide ((y1.length : Int) > 19)) then (some false) else (Option.bind (loopN (fun (s33 : Int × Int) => (bif (decide (s33.2 < (y1.length : Int))) then (bif inR s33.2 y1.length then (some (.inl ((IntKind.wrap .u64 ((IntKind.wrap .u64 (s33.1 * 10)) + (IntKind.wrap .u64 (nth y1 s33.2)))), (IntKind.wrap .i64 (s33.2 + 1))))) else none) else (some (.inr s33.1)))) big (0, 0)) fun (s28 : Int) => (Option.bind (bif (decide (x2 ≥ 0)) then (bif (decide (s28 ≤ (IntKind.wrap .u64 x2))) then (bif (decide (x1 < 0)) then (some true) else (some ((decide (s28 ≥ (IntKind.wrap .u64 x1)))))) else (some false)) else (some false)) fun (s63 : Bool) => (some s63)))))
theorem exergueref07_In_ok {x0 : List Int} {x1 : Int} {x2 : Int} {r : Bool} (h : exergueref07_In x0 x1 x2 = some r) : SC Try.prog 25 [lsv (encI .u8) 1 x0, .int .i64 x1, .int .i64 x2] [] (.bool r) [] := by
  refine K.fn (fn := Try.f25) (by kernel_rfl) (by kernel_rfl) (by kernel_rfl) (by kernel_rfl) (by kernel_rfl) (fun F hFn hFH hFD => ?_)
  unfold exergueref07_In at h
  refine K.seq (by kernel_rfl) ?_
  refine K.region (by kernel_rfl) ?_
  refine RJ.seg 1 [0, 1, 2, 6] (L2 := [(0, lsv (encI .u8) 1 x0), (1, .int .i64 x1), (2, .int .i64 x2), (6, .bool false)]) (H2 := []) (by kernel_rfl) ?_
  refine RJ.end (by kernel_rfl) ?_
  refine PJ.next ?_
  refine K.seq (by kernel_rfl) ?_
  refine K.region (by kernel_rfl) ?_
  refine RJ.seg 1 [1, 2, 6, 10] (L2 := [(1, .int .i64 x1), (2, .int .i64 x2), (6, .bool false), (10, lsv (encI .u8) 1 x0)]) (H2 := []) (by kernel_rfl) ?_
  obtain ⟨y1, hy2, h3⟩ := bindS h
  refine RJ.call0 (d := (some 11)) (f := 30) (args := [lsv (encI .u8) 1 x0]) (v := lsv (encI .u8) 1 y1) (tr2 := []) (by kernel_rfl) (by kernel_rfl) (.cons (Le.refl _) .nil) (exergueref07_Bare_ok hy2) (by kernel_rfl) ?_
  refine RJ.seg 1 [1, 2, 6, 7] (L2 := [(1, .int .i64 x1), (2, .int .i64 x2), (6, .bool false), (7, lsv (encI .u8) 1 y1)]) (H2 := []) (by kernel_rfl) ?_
  refine RJ.end (by kernel_rfl) ?_
  refine PJ.next ?_
  refine K.seq (by kernel_rfl) ?_
  refine K.seq (by kernel_rfl) ?_
  refine K.region (by kernel_rfl) ?_
  refine RJ.seg 3 [1, 2, 6, 7, 14] (L2 := [(1, .int .i64 x1), (2, .int .i64 x2), (6, .bool false), (7, lsv (encI .u8) 1 y1), (14, .bool ((decide ((y1.length : Int) > 19))))]) (H2 := []) (by kernel_rfl) ?_
  refine RJ.end (by kernel_rfl) ?_
  refine PJ.next ?_
  refine J.caseB 14 (b := (decide ((y1.length : Int) > 19))) (by kernel_rfl) (fun hb4 => ?_) (fun hb4 => ?_)
  · have h5 := condT hb4 h3
    refine K.condT (by kernel_rfl) ?_
    refine K.seq (by kernel_rfl) ?_
    refine K.region (by kernel_rfl) ?_
    refine RJ.seg 1 [1, 2, 6, 7] (L2 := [(1, .int .i64 x1), (2, .int .i64 x2), (6, .bool false), (7, lsv (encI .u8) 1 y1)]) (H2 := []) (by kernel_rfl) ?_
    refine RJ.end (by kernel_rfl) ?_
    refine PJ.next ?_
    refine K.ret (by kernel_rfl) ?_
    refine PJ.passRet ?_
    obtain rfl := Option.some.inj h5
    exact K.ret0 (.inr rfl) hFn hFH hFD (by kernel_rfl) (by kernel_rfl) (by kernel_rfl)
  · have h6 := condF hb4 h3
    refine K.condF (by kernel_rfl) ?_
    refine K.skip (by kernel_rfl) ?_
    refine PJ.next ?_
    refine K.seq (by kernel_rfl) ?_
    refine K.region (by kernel_rfl) ?_
    refine RJ.seg 1 [1, 2, 6, 7, 8] (L2 := [(1, .int .i64 x1), (2, .int .i64 x2), (6, .bool false), (7, lsv (encI .u8) 1 y1), (8, .int .u64 0)]) (H2 := []) (by kernel_rfl) ?_
    refine RJ.end (by kernel_rfl) ?_
    refine PJ.next ?_
    obtain ⟨s28, hy30, h32⟩ := bindS h6
    refine K.cutN (by kernel_rfl) (fun (s28 : Int) => ([(1, .int .i64 x1), (2, .int .i64 x2), (6, .bool false), (8, .int .u64 s28)], [])) s28 ?_ ?_
    · refine K.seq (by kernel_rfl) ?_
      refine K.region (by kernel_rfl) ?_
      refine RJ.seg 1 [1, 2, 6, 7, 8, 9] (L2 := [(1, .int .i64 x1), (2, .int .i64 x2), (6, .bool false), (7, lsv (encI .u8) 1 y1), (8, .int .u64 0), (9, .int .i64 0)]) (H2 := []) (by kernel_rfl) ?_
      refine RJ.end (by kernel_rfl) ?_
      refine PJ.next ?_
      refine K.block 0 (by kernel_rfl) ?_
      refine K.loop (by kernel_rfl) (fun (s33 : Int × Int) => ([(1, .int .i64 x1), (2, .int .i64 x2), (6, .bool false), (7, lsv (encI .u8) 1 y1), (8, .int .u64 s33.1), (9, .int .i64 s33.2)], [])) hy30 [1, 2, 6, 7, 8, 9] (by kernel_rfl) (by kernel_rfl) (fun s33 x47 hs46 => ?_)
      refine K.seq (by kernel_rfl) ?_
      refine K.seq (by kernel_rfl) ?_
      refine K.region (by kernel_rfl) ?_
      refine RJ.seg 4 [1, 2, 6, 7, 8, 9, 18] (L2 := [(1, .int .i64 x1), (2, .int .i64 x2), (6, .bool false), (7, lsv (encI .u8) 1 y1), (8, .int .u64 s33.1), (9, .int .i64 s33.2), (18, .bool ((decide (s33.2 < (y1.length : Int)))))]) (H2 := []) (by kernel_rfl) ?_
      refine RJ.end (by kernel_rfl) ?_
      refine PJ.next ?_
      refine J.caseB 18 (b := (decide (s33.2 < (y1.length : Int)))) (by kernel_rfl) (fun hb48 => ?_) (fun hb48 => ?_)
      · have h49 := condT hb48 hs46
        refine K.condT (by kernel_rfl) ?_
        refine K.skip (by kernel_rfl) ?_
        refine PJ.next ?_
        refine K.seq (by kernel_rfl) ?_
        refine K.block 1 (by kernel_rfl) ?_
        refine K.region (by kernel_rfl) ?_
        refine RJ.seg 4 [1, 2, 6, 7, 8, 9, 22, 23, 24] (L2 := [(1, .int .i64 x1), (2, .int .i64 x2), (6, .bool false), (7, lsv (encI .u8) 1 y1), (8, .int .u64 s33.1), (9, .int .i64 s33.2), (22, .int .u64 (IntKind.wrap .u64 (s33.1 * 10))), (23, lsv (encI .u8) 1 y1), (24, .int .i64 s33.2)]) (H2 := []) (by kernel_rfl) ?_
        obtain ⟨hm, h51⟩ := asrt h49
        refine RJ.rel (d := (some 25)) (ef := ⟨.ep (((y1.flatMap (encI .u8)).drop ((s33.2 : Int).toNat * 1)).take 1), [], []⟩) (ef' := ⟨.ep ((encI .u8) (nth y1 s33.2)), [], []⟩) (c := inR s33.2 y1.length) (tr2 := []) (H2 := []) (by kernel_rfl) hm (fun hc => N.idx (encI_len .u8) hc) (by kernel_rfl) ?_
        refine RJ.seg 4 [1, 2, 6, 7, 8, 9] (L2 := [(1, .int .i64 x1), (2, .int .i64 x2), (6, .bool false), (7, lsv (encI .u8) 1 y1), (8, .int .u64 ((IntKind.wrap .u64 ((IntKind.wrap .u64 (s33.1 * 10)) + (IntKind.wrap .u64 (nth y1 s33.2)))))), (9, .int .i64 s33.2)]) (H2 := []) (by kernel_rfl) ?_
        refine RJ.end (by kernel_rfl) ?_
        refine PJ.blockNormal ?_
        refine PJ.next ?_
        refine K.region (by kernel_rfl) ?_
        refine RJ.seg 3 [1, 2, 6, 7, 8, 9] (L2 := [(1, .int .i64 x1), (2, .int .i64 x2), (6, .bool false), (7, lsv (encI .u8) 1 y1), (8, .int .u64 ((IntKind.wrap .u64 ((IntKind.wrap .u64 (s33.1 * 10)) + (IntKind.wrap .u64 (nth y1 s33.2)))))), (9, .int .i64 (IntKind.wrap .i64 (s33.2 + 1)))]) (H2 := []) (by kernel_rfl) ?_
        refine RJ.end (by kernel_rfl) ?_
        obtain rfl := Option.some.inj h51
        exact PJ.loopNext [1, 2, 6, 7, 8, 9] (by kernel_rfl) (by kernel_rfl)
      · have h50 := condF hb48 hs46
        refine K.condF (by kernel_rfl) ?_
        refine K.exit 0 (by kernel_rfl) ?_
        refine PJ.passExit ?_
        obtain rfl := Option.some.inj h50
        refine PJ.loopOut (fun e => nomatch e) (fun he53 => ?_)
        have h52 := congrArg some he53
        refine PJ.blockOut ?_
        obtain rfl := Option.some.inj h52
        exact PJ.cutN [1, 2, 6, 8] (by kernel_rfl) (by kernel_rfl)
    · obtain ⟨s63, hy65, h67⟩ := bindS h32
      refine K.cutN (by kernel_rfl) (fun (s63 : Bool) => ([(6, .bool s63)], [])) s63 ?_ ?_
      · refine K.region (by kernel_rfl) ?_
        refine RJ.seg 3 [1, 2, 6, 8, 31] (L2 := [(1, .int .i64 x1), (2, .int .i64 x2), (6, .bool false), (8, .int .u64 s28), (31, .bool (decide (x2 ≥ 0)))]) (H2 := []) (by kernel_rfl) ?_
        refine RJ.caseB 31 (b := (decide (x2 ≥ 0))) (by kernel_rfl) (fun hb68 => ?_) (fun hb68 => ?_)
        · have h69 := condT hb68 hy65
          refine RJ.seg 6 [1, 6, 8, 37] (L2 := [(1, .int .i64 x1), (6, .bool false), (8, .int .u64 s28), (37, .bool ((decide (s28 ≤ (IntKind.wrap .u64 x2)))))]) (H2 := []) (by kernel_rfl) ?_
          refine RJ.caseB 37 (b := (decide (s28 ≤ (IntKind.wrap .u64 x2)))) (by kernel_rfl) (fun hb71 => ?_) (fun hb71 => ?_)
          · have h72 := condT hb71 h69
            refine RJ.seg 3 [1, 6, 8, 37, 40] (L2 := [(1, .int .i64 x1), (6, .bool false), (8, .int .u64 s28), (37, .bool true), (40, .bool (decide (x1 < 0)))]) (H2 := []) (by kernel_rfl) ?_
            refine RJ.caseB 40 (b := (decide (x1 < 0))) (by kernel_rfl) (fun hb74 => ?_) (fun hb74 => ?_)
            · have h75 := condT hb74 h72
              refine RJ.seg 7 [6] (L2 := [(6, .bool true)]) (H2 := []) (by kernel_rfl) ?_
              refine RJ.end (by kernel_rfl) ?_
              obtain rfl := Option.some.inj h75
              exact PJ.cutN [6] (by kernel_rfl) (by kernel_rfl)
            · have h76 := condF hb74 h72
              refine RJ.seg 7 [6] (L2 := [(6, .bool ((decide (s28 ≥ (IntKind.wrap .u64 x1)))))]) (H2 := []) (by kernel_rfl) ?_
              refine RJ.end (by kernel_rfl) ?_
              obtain rfl := Option.some.inj h76
              exact PJ.cutN [6] (by kernel_rfl) (by kernel_rfl)
          · have h73 := condF hb71 h69
            refine RJ.seg 10 [6] (L2 := [(6, .bool false)]) (H2 := []) (by kernel_rfl) ?_
            refine RJ.end (by kernel_rfl) ?_
            obtain rfl := Option.some.inj h73
            exact PJ.cutN [6] (by kernel_rfl) (by kernel_rfl)
        · have h70 := condF hb68 hy65
          refine RJ.seg 16 [6] (L2 := [(6, .bool false)]) (H2 := []) (by kernel_rfl) ?_
          refine RJ.end (by kernel_rfl) ?_
          obtain rfl := Option.some.inj h70
          exact PJ.cutN [6] (by kernel_rfl) (by kernel_rfl)
      · refine K.ret (by kernel_rfl) ?_
        obtain rfl := Option.some.inj h67
        exact K.ret0 (.inr rfl) hFn hFH hFD (by kernel_rfl) (by kernel_rfl) (by kernel_rfl)

def exerguelaw07_OperMods (x0 : St39) : Option (Bool) :=
  (Option.bind exerguelaw07_shown fun y1 => (Option.bind (Option.bind (bif (decide ((x0.L_.length : Int) > 1000)) then (some true) else (Option.bind (exergueref07_Figures x0.L_) fun y62 => (bif (!y62) then (some true) else (bif (decide (x0.M_ < 1)) then (some true) else (some (decide (x0.M_ > 1000000000))))))) fun (s54 : Bool) => (bif s54 then (some (.inr y1)) else (some (.inl ())))) (joinX fun (s37 : Unit) => (Option.bind (bif y1 then (Option.bind (oper_Mod x0.L_ x0.M_) fun y101 => (Option.bind (exergueref07_Mod x0.L_ x0.M_) fun y104 => (bif (decide (y101 = y104)) then (Option.bind (oper_In x0.L_ x0.From_ x0.To_) fun y110 => (Option.bind (exergueref07_In x0.L_ x0.From_ x0.To_) fun y113 => (some (y110 == y113)))) else (some false)))) else (some false)) fun (s93 : Bool) => (some s93)))))
theorem exerguelaw07_OperMods_ok {x0 : St39} {r : Bool} (h : exerguelaw07_OperMods x0 = some r) : SC Try.prog 4 [.agg [lsv (encI .u8) 1 x0.L_, .int .i64 x0.M_, .int .i64 x0.From_, .int .i64 x0.To_]] [] (.bool r) [] := by
  refine K.fn (fn := Try.f4) (by kernel_rfl) (by kernel_rfl) (by kernel_rfl) (by kernel_rfl) (by kernel_rfl) (fun F hFn hFH hFD => ?_)
  unfold exerguelaw07_OperMods at h
  refine K.seq (by kernel_rfl) ?_
  refine K.region (by kernel_rfl) ?_
  refine RJ.seg 2 [1, 2] (L2 := [(1, .ptr 0 0), (2, .bool false)]) (H2 := [.box [lsv (encI .u8) 1 x0.L_, .int .i64 x0.M_, .int .i64 x0.From_, .int .i64 x0.To_]]) (by kernel_rfl) ?_
  refine RJ.end (by kernel_rfl) ?_
  refine PJ.next ?_
  refine K.seq (by kernel_rfl) ?_
  refine K.region (by kernel_rfl) ?_
  refine RJ.seg 3 [1, 2, 3] (L2 := [(1, .ptr 0 0), (2, .bool false), (3, lsv (encI .u8) 1 x0.L_)]) (H2 := [.box [lsv (encI .u8) 1 x0.L_, .int .i64 x0.M_, .int .i64 x0.From_, .int .i64 x0.To_]]) (by kernel_rfl) ?_
  refine RJ.end (by kernel_rfl) ?_
  refine PJ.next ?_
  refine K.seq (by kernel_rfl) ?_
  refine K.region (by kernel_rfl) ?_
  refine RJ.seg 3 [1, 2, 3, 4] (L2 := [(1, .ptr 0 0), (2, .bool false), (3, lsv (encI .u8) 1 x0.L_), (4, .int .i64 x0.M_)]) (H2 := [.box [lsv (encI .u8) 1 x0.L_, .int .i64 x0.M_, .int .i64 x0.From_, .int .i64 x0.To_]]) (by kernel_rfl) ?_
  refine RJ.end (by kernel_rfl) ?_
  refine PJ.next ?_
  refine K.seq (by kernel_rfl) ?_
  refine K.region (by kernel_rfl) ?_
  refine RJ.seg 3 [1, 2, 3, 4, 5] (L2 := [(1, .ptr 0 0), (2, .bool false), (3, lsv (encI .u8) 1 x0.L_), (4, .int .i64 x0.M_), (5, .int .i64 x0.From_)]) (H2 := [.box [lsv (encI .u8) 1 x0.L_, .int .i64 x0.M_, .int .i64 x0.From_, .int .i64 x0.To_]]) (by kernel_rfl) ?_
  refine RJ.end (by kernel_rfl) ?_
  refine PJ.next ?_
  refine K.seq (by kernel_rfl) ?_
  refine K.region (by kernel_rfl) ?_
  refine RJ.seg 3 [2, 3, 4, 5, 6] (L2 := [(2, .bool false), (3, lsv (encI .u8) 1 x0.L_), (4, .int .i64 x0.M_), (5, .int .i64 x0.From_), (6, .int .i64 x0.To_)]) (H2 := [.box [lsv (encI .u8) 1 x0.L_, .int .i64 x0.M_, .int .i64 x0.From_, .int .i64 x0.To_]]) (by kernel_rfl) ?_
  refine RJ.end (by kernel_rfl) ?_
  refine PJ.next ?_
  refine K.seq (by kernel_rfl) ?_
  refine K.region (by kernel_rfl) ?_
  obtain ⟨y1, hy2, h3⟩ := bindS h
  refine RJ.call0 (d := (some 16)) (f := 10) (args := []) (v := .bool y1) (tr2 := []) (by kernel_rfl) (by kernel_rfl) .nil (exerguelaw07_shown_ok hy2) (by kernel_rfl) ?_
  refine RJ.seg 1 [2, 3, 4, 5, 6, 7] (L2 := [(2, .bool false), (3, lsv (encI .u8) 1 x0.L_), (4, .int .i64 x0.M_), (5, .int .i64 x0.From_), (6, .int .i64 x0.To_), (7, .bool y1)]) (H2 := [.box [lsv (encI .u8) 1 x0.L_, .int .i64 x0.M_, .int .i64 x0.From_, .int .i64 x0.To_]]) (by kernel_rfl) ?_
  refine RJ.end (by kernel_rfl) ?_
  refine PJ.next ?_
  obtain ⟨y38, hy39, h40⟩ := bindS h3
  refine K.cutX (by kernel_rfl) (fun (s37 : Unit) => ([(2, .bool false), (3, lsv (encI .u8) 1 x0.L_), (4, .int .i64 x0.M_), (5, .int .i64 x0.From_), (6, .int .i64 x0.To_), (7, .bool y1)], [])) y38 ?_ (fun s37 hs => ?_)
  · obtain ⟨s54, hy56, h58⟩ := bindS hy39
    refine K.cutN (by kernel_rfl) (fun (s54 : Bool) => ([(2, .bool false), (3, lsv (encI .u8) 1 x0.L_), (4, .int .i64 x0.M_), (5, .int .i64 x0.From_), (6, .int .i64 x0.To_), (7, .bool y1), (32, .bool s54)], [])) s54 ?_ ?_
    · refine K.region (by kernel_rfl) ?_
      refine RJ.seg 4 [2, 3, 4, 5, 6, 7, 20] (L2 := [(2, .bool false), (3, lsv (encI .u8) 1 x0.L_), (4, .int .i64 x0.M_), (5, .int .i64 x0.From_), (6, .int .i64 x0.To_), (7, .bool y1), (20, .bool ((decide ((x0.L_.length : Int) > 1000))))]) (H2 := [.box [lsv (encI .u8) 1 x0.L_, .int .i64 x0.M_, .int .i64 x0.From_, .int .i64 x0.To_]]) (by kernel_rfl) ?_
      refine RJ.caseB 20 (b := (decide ((x0.L_.length : Int) > 1000))) (by kernel_rfl) (fun hb59 => ?_) (fun hb59 => ?_)
      · have h60 := condT hb59 hy56
        refine RJ.seg 12 [2, 3, 4, 5, 6, 7, 32] (L2 := [(2, .bool false), (3, lsv (encI .u8) 1 x0.L_), (4, .int .i64 x0.M_), (5, .int .i64 x0.From_), (6, .int .i64 x0.To_), (7, .bool y1), (32, .bool true)]) (H2 := [.box [lsv (encI .u8) 1 x0.L_, .int .i64 x0.M_, .int .i64 x0.From_, .int .i64 x0.To_]]) (by kernel_rfl) ?_
        refine RJ.end (by kernel_rfl) ?_
        obtain rfl := Option.some.inj h60
        refine PJ.wk (Wk.sel (L2 := [(2, .bool false), (3, lsv (encI .u8) 1 x0.L_), (4, .int .i64 x0.M_), (5, .int .i64 x0.From_), (6, .int .i64 x0.To_), (7, .bool y1), (32, .bool true)]) (H2 := []) 0 (by rw [hFH]; rfl) hFD [] (by kernel_rfl) (by kernel_rfl) (by decide) (by kernel_rfl) (by kernel_rfl) (by kernel_rfl) (by kernel_rfl)) ?_
        exact PJ.cutN [2, 3, 4, 5, 6, 7, 32] (by kernel_rfl) (by kernel_rfl)
      · have h61 := condF hb59 hy56
        refine RJ.seg 1 [2, 3, 4, 5, 6, 7, 20, 21] (L2 := [(2, .bool false), (3, lsv (encI .u8) 1 x0.L_), (4, .int .i64 x0.M_), (5, .int .i64 x0.From_), (6, .int .i64 x0.To_), (7, .bool y1), (20, .bool false), (21, lsv (encI .u8) 1 x0.L_)]) (H2 := [.box [lsv (encI .u8) 1 x0.L_, .int .i64 x0.M_, .int .i64 x0.From_, .int .i64 x0.To_]]) (by kernel_rfl) ?_
        obtain ⟨y62, hy63, h64⟩ := bindS h61
        refine RJ.call0 (d := (some 22)) (f := 21) (args := [lsv (encI .u8) 1 x0.L_]) (v := .bool y62) (tr2 := []) (by kernel_rfl) (by kernel_rfl) (.cons (Le.refl _) .nil) (exergueref07_Figures_ok hy63) (by kernel_rfl) ?_
        refine RJ.seg 3 [2, 3, 4, 5, 6, 7, 25] (L2 := [(2, .bool false), (3, lsv (encI .u8) 1 x0.L_), (4, .int .i64 x0.M_), (5, .int .i64 x0.From_), (6, .int .i64 x0.To_), (7, .bool y1), (25, .bool (!y62))]) (H2 := [.box [lsv (encI .u8) 1 x0.L_, .int .i64 x0.M_, .int .i64 x0.From_, .int .i64 x0.To_]]) (by kernel_rfl) ?_
        refine RJ.caseB 25 (b := (!y62)) (by kernel_rfl) (fun hb65 => ?_) (fun hb65 => ?_)
        · have h66 := condT hb65 h64
          refine RJ.seg 7 [2, 3, 4, 5, 6, 7, 32] (L2 := [(2, .bool false), (3, lsv (encI .u8) 1 x0.L_), (4, .int .i64 x0.M_), (5, .int .i64 x0.From_), (6, .int .i64 x0.To_), (7, .bool y1), (32, .bool true)]) (H2 := [.box [lsv (encI .u8) 1 x0.L_, .int .i64 x0.M_, .int .i64 x0.From_, .int .i64 x0.To_]]) (by kernel_rfl) ?_
          refine RJ.end (by kernel_rfl) ?_
          obtain rfl := Option.some.inj h66
          refine PJ.wk (Wk.sel (L2 := [(2, .bool false), (3, lsv (encI .u8) 1 x0.L_), (4, .int .i64 x0.M_), (5, .int .i64 x0.From_), (6, .int .i64 x0.To_), (7, .bool y1), (32, .bool true)]) (H2 := []) 0 (by rw [hFH]; rfl) hFD [] (by kernel_rfl) (by kernel_rfl) (by decide) (by kernel_rfl) (by kernel_rfl) (by kernel_rfl) (by kernel_rfl)) ?_
          exact PJ.cutN [2, 3, 4, 5, 6, 7, 32] (by kernel_rfl) (by kernel_rfl)
        · have h67 := condF hb65 h64
          refine RJ.seg 4 [2, 3, 4, 5, 6, 7, 29] (L2 := [(2, .bool false), (3, lsv (encI .u8) 1 x0.L_), (4, .int .i64 x0.M_), (5, .int .i64 x0.From_), (6, .int .i64 x0.To_), (7, .bool y1), (29, .bool (decide (x0.M_ < 1)))]) (H2 := [.box [lsv (encI .u8) 1 x0.L_, .int .i64 x0.M_, .int .i64 x0.From_, .int .i64 x0.To_]]) (by kernel_rfl) ?_
          refine RJ.caseB 29 (b := (decide (x0.M_ < 1))) (by kernel_rfl) (fun hb68 => ?_) (fun hb68 => ?_)
          · have h69 := condT hb68 h67
            refine RJ.seg 3 [2, 3, 4, 5, 6, 7, 32] (L2 := [(2, .bool false), (3, lsv (encI .u8) 1 x0.L_), (4, .int .i64 x0.M_), (5, .int .i64 x0.From_), (6, .int .i64 x0.To_), (7, .bool y1), (32, .bool true)]) (H2 := [.box [lsv (encI .u8) 1 x0.L_, .int .i64 x0.M_, .int .i64 x0.From_, .int .i64 x0.To_]]) (by kernel_rfl) ?_
            refine RJ.end (by kernel_rfl) ?_
            obtain rfl := Option.some.inj h69
            refine PJ.wk (Wk.sel (L2 := [(2, .bool false), (3, lsv (encI .u8) 1 x0.L_), (4, .int .i64 x0.M_), (5, .int .i64 x0.From_), (6, .int .i64 x0.To_), (7, .bool y1), (32, .bool true)]) (H2 := []) 0 (by rw [hFH]; rfl) hFD [] (by kernel_rfl) (by kernel_rfl) (by decide) (by kernel_rfl) (by kernel_rfl) (by kernel_rfl) (by kernel_rfl)) ?_
            exact PJ.cutN [2, 3, 4, 5, 6, 7, 32] (by kernel_rfl) (by kernel_rfl)
          · have h70 := condF hb68 h67
            refine RJ.seg 3 [2, 3, 4, 5, 6, 7, 32] (L2 := [(2, .bool false), (3, lsv (encI .u8) 1 x0.L_), (4, .int .i64 x0.M_), (5, .int .i64 x0.From_), (6, .int .i64 x0.To_), (7, .bool y1), (32, .bool (decide (x0.M_ > 1000000000)))]) (H2 := [.box [lsv (encI .u8) 1 x0.L_, .int .i64 x0.M_, .int .i64 x0.From_, .int .i64 x0.To_]]) (by kernel_rfl) ?_
            refine RJ.end (by kernel_rfl) ?_
            obtain rfl := Option.some.inj h70
            refine PJ.wk (Wk.sel (L2 := [(2, .bool false), (3, lsv (encI .u8) 1 x0.L_), (4, .int .i64 x0.M_), (5, .int .i64 x0.From_), (6, .int .i64 x0.To_), (7, .bool y1), (32, .bool (decide (x0.M_ > 1000000000)))]) (H2 := []) 0 (by rw [hFH]; rfl) hFD [] (by kernel_rfl) (by kernel_rfl) (by decide) (by kernel_rfl) (by kernel_rfl) (by kernel_rfl) (by kernel_rfl)) ?_
            exact PJ.cutN [2, 3, 4, 5, 6, 7, 32] (by kernel_rfl) (by kernel_rfl)
    · refine J.caseB 32 (b := s54) (by kernel_rfl) (fun hb71 => ?_) (fun hb71 => ?_)
      · have h72 := condT hb71 h58
        refine K.condT (by kernel_rfl) ?_
        refine K.seq (by kernel_rfl) ?_
        refine K.region (by kernel_rfl) ?_
        refine RJ.seg 2 [2, 3, 4, 5, 6, 7] (L2 := [(2, .bool y1), (3, lsv (encI .u8) 1 x0.L_), (4, .int .i64 x0.M_), (5, .int .i64 x0.From_), (6, .int .i64 x0.To_), (7, .bool y1)]) (H2 := []) (by kernel_rfl) ?_
        refine RJ.end (by kernel_rfl) ?_
        refine PJ.next ?_
        refine K.ret (by kernel_rfl) ?_
        obtain rfl := Option.some.inj h72
        have h74 := joinX_inr h40
        refine PJ.cutXr (fun e => nomatch e) ?_
        obtain rfl := Option.some.inj h74
        exact K.ret0 (.inr rfl) hFn hFH hFD (by kernel_rfl) (by kernel_rfl) (by kernel_rfl)
      · have h73 := condF hb71 h58
        refine K.condF (by kernel_rfl) ?_
        refine K.skip (by kernel_rfl) ?_
        obtain rfl := Option.some.inj h73
        exact PJ.cutXl [2, 3, 4, 5, 6, 7] (by kernel_rfl) (by kernel_rfl)
  · subst hs
    have h41 := joinX_inl h40
    obtain ⟨s93, hy95, h97⟩ := bindS h41
    refine K.cutN (by kernel_rfl) (fun (s93 : Bool) => ([(2, .bool s93)], [])) s93 ?_ ?_
    · refine K.region (by kernel_rfl) ?_
      refine RJ.seg 2 [2, 3, 4, 5, 6, 35] (L2 := [(2, .bool false), (3, lsv (encI .u8) 1 x0.L_), (4, .int .i64 x0.M_), (5, .int .i64 x0.From_), (6, .int .i64 x0.To_), (35, .bool y1)]) (H2 := []) (by kernel_rfl) ?_
      refine RJ.caseB 35 (b := y1) (by kernel_rfl) (fun hb98 => ?_) (fun hb98 => ?_)
      · have h99 := condT hb98 hy95
        refine RJ.seg 2 [2, 3, 4, 5, 6, 35, 36, 37] (L2 := [(2, .bool false), (3, lsv (encI .u8) 1 x0.L_), (4, .int .i64 x0.M_), (5, .int .i64 x0.From_), (6, .int .i64 x0.To_), (35, .bool true), (36, lsv (encI .u8) 1 x0.L_), (37, .int .i64 x0.M_)]) (H2 := []) (by kernel_rfl) ?_
        obtain ⟨y101, hy102, h103⟩ := bindS h99
        refine RJ.call0 (d := (some 38)) (f := 22) (args := [lsv (encI .u8) 1 x0.L_, .int .i64 x0.M_]) (v := .int .i64 y101) (tr2 := []) (by kernel_rfl) (by kernel_rfl) (.cons (Le.refl _) (.cons (Le.refl _) .nil)) (oper_Mod_ok hy102) (by kernel_rfl) ?_
        refine RJ.seg 2 [2, 3, 5, 6, 35, 38, 39, 40] (L2 := [(2, .bool false), (3, lsv (encI .u8) 1 x0.L_), (5, .int .i64 x0.From_), (6, .int .i64 x0.To_), (35, .bool true), (38, .int .i64 y101), (39, lsv (encI .u8) 1 x0.L_), (40, .int .i64 x0.M_)]) (H2 := []) (by kernel_rfl) ?_
        obtain ⟨y104, hy105, h106⟩ := bindS h103
        refine RJ.call0 (d := (some 41)) (f := 23) (args := [lsv (encI .u8) 1 x0.L_, .int .i64 x0.M_]) (v := .int .i64 y104) (tr2 := []) (by kernel_rfl) (by kernel_rfl) (.cons (Le.refl _) (.cons (Le.refl _) .nil)) (exergueref07_Mod_ok hy105) (by kernel_rfl) ?_
        refine RJ.seg 3 [2, 3, 5, 6, 44] (L2 := [(2, .bool false), (3, lsv (encI .u8) 1 x0.L_), (5, .int .i64 x0.From_), (6, .int .i64 x0.To_), (44, .bool (decide (y101 = y104)))]) (H2 := []) (by kernel_rfl) ?_
        refine RJ.caseB 44 (b := (decide (y101 = y104))) (by kernel_rfl) (fun hb107 => ?_) (fun hb107 => ?_)
        · have h108 := condT hb107 h106
          refine RJ.seg 3 [2, 3, 5, 6, 44, 45, 46, 47] (L2 := [(2, .bool false), (3, lsv (encI .u8) 1 x0.L_), (5, .int .i64 x0.From_), (6, .int .i64 x0.To_), (44, .bool true), (45, lsv (encI .u8) 1 x0.L_), (46, .int .i64 x0.From_), (47, .int .i64 x0.To_)]) (H2 := []) (by kernel_rfl) ?_
          obtain ⟨y110, hy111, h112⟩ := bindS h108
          refine RJ.call0 (d := (some 48)) (f := 24) (args := [lsv (encI .u8) 1 x0.L_, .int .i64 x0.From_, .int .i64 x0.To_]) (v := .bool y110) (tr2 := []) (by kernel_rfl) (by kernel_rfl) (.cons (Le.refl _) (.cons (Le.refl _) (.cons (Le.refl _) .nil))) (oper_In_ok hy111) (by kernel_rfl) ?_
          refine RJ.seg 3 [2, 44, 48, 49, 50, 51] (L2 := [(2, .bool false), (44, .bool true), (48, .bool y110), (49, lsv (encI .u8) 1 x0.L_), (50, .int .i64 x0.From_), (51, .int .i64 x0.To_)]) (H2 := []) (by kernel_rfl) ?_
          obtain ⟨y113, hy114, h115⟩ := bindS h112
          refine RJ.call0 (d := (some 52)) (f := 25) (args := [lsv (encI .u8) 1 x0.L_, .int .i64 x0.From_, .int .i64 x0.To_]) (v := .bool y113) (tr2 := []) (by kernel_rfl) (by kernel_rfl) (.cons (Le.refl _) (.cons (Le.refl _) (.cons (Le.refl _) .nil))) (exergueref07_In_ok hy114) (by kernel_rfl) ?_
          refine RJ.seg 3 [2] (L2 := [(2, .bool (y110 == y113))]) (H2 := []) (by kernel_rfl) ?_
          refine RJ.end (by kernel_rfl) ?_
          obtain rfl := Option.some.inj h115
          exact PJ.cutN [2] (by kernel_rfl) (by kernel_rfl)
        · have h109 := condF hb107 h106
          refine RJ.seg 11 [2] (L2 := [(2, .bool false)]) (H2 := []) (by kernel_rfl) ?_
          refine RJ.end (by kernel_rfl) ?_
          obtain rfl := Option.some.inj h109
          exact PJ.cutN [2] (by kernel_rfl) (by kernel_rfl)
      · have h100 := condF hb98 hy95
        refine RJ.seg 20 [2] (L2 := [(2, .bool false)]) (H2 := []) (by kernel_rfl) ?_
        refine RJ.end (by kernel_rfl) ?_
        obtain rfl := Option.some.inj h100
        exact PJ.cutN [2] (by kernel_rfl) (by kernel_rfl)
    · refine K.ret (by kernel_rfl) ?_
      obtain rfl := Option.some.inj h97
      exact K.ret0 (.inr rfl) hFn hFH hFD (by kernel_rfl) (by kernel_rfl) (by kernel_rfl)

def exerguelaw07_OperNoughts (x0 : List Int) (x1 : List Int) (x2 : Int) : Option (Bool) :=
  (Option.bind exerguelaw07_shown fun y1 => (Option.bind (exerguelaw07_few x0 x1) fun y4 => (bif (!y4) then (some y1) else (Option.bind (oper_Of x0 x1 x2) fun y10 => (bif room (([0] : List Int).length + x0.length) then (Option.bind (oper_Of (([0] : List Int) ++ x0) x1 x2) fun y14 => (bif room x1.length then (bif room (x1.length + ([0] : List Int).length) then (Option.bind (oper_Of x0 (x1 ++ ([0] : List Int)) x2) fun y19 => (Option.bind (Option.bind (bif (decide (¬ y10.2 = y14.2)) then (some true) else (bif (decide (¬ y10.2 = y19.2)) then (some true) else (Option.bind (exergueref07_Same y10.1 y14.1) fun y74 => (some (!y74))))) fun (s63 : Bool) => (bif s63 then (some (.inr false)) else (some (.inl ())))) (joinX fun (s49 : Unit) => (bif (decide (¬ y10.2 = 0)) then (Option.bind (bif y1 then (some (decide (y10.2 = 1))) else (some false)) fun (s87 : Bool) => (some s87)) else (Option.bind (loopN (fun (s325 : Int) => (bif (decide (s325 < (([110, 105, 119, 116, 99, 101] : List UInt8).length : Int))) then (Option.bind (bif inR s325 ([110, 105, 119, 116, 99, 101] : List UInt8).length then (Option.bind (oper_Operand y10.1 ((((([110, 105, 119, 116, 99, 101] : List UInt8).getD (s325 : Int).toNat 0).toNat : Nat) : Int))) fun y517 => (bif inR s325 ([110, 105, 119, 116, 99, 101] : List UInt8).length then (Option.bind (oper_Operand y19.1 ((((([110, 105, 119, 116, 99, 101] : List UInt8).getD (s325 : Int).toNat 0).toNat : Nat) : Int))) fun y521 => (Option.bind (bif (y517.2 != y521.2) then (some true) else (Option.bind (exergueref01_Row y517.1 y521.1) fun y538 => (some (!y538)))) fun (s530 : Bool) => (bif s530 then (some (.inr (.inr (.inr false)))) else (some (.inl ()))))) else none)) else none) (joinX fun (s511 : Unit) => (some (.inl (IntKind.wrap .i64 (s325 + 1)))))) else (some (.inr (.inl ()))))) big 0) (joinX fun (s320 : Unit) => (Option.bind (oper_Operand y10.1 102) fun y550 => (Option.bind (oper_Operand y19.1 102) fun y553 => (Option.bind (bif y1 then (bif (decide ((y19.1.F_.length : Int) = ((IntKind.wrap .i64 ((y10.1.F_.length : Int) + 1))))) then (bif (decide ((y550.1.length : Int) = 0)) then (bif (decide ((y553.1.length : Int) = 0)) then (some true) else (bif room y550.1.length then (bif room (y550.1.length + ([0] : List Int).length) then (Option.bind (exergueref01_Row y553.1 (y550.1 ++ ([0] : List Int))) fun y597 => (some y597)) else none) else none)) else (bif room y550.1.length then (bif room (y550.1.length + ([0] : List Int).length) then (Option.bind (exergueref01_Row y553.1 (y550.1 ++ ([0] : List Int))) fun y602 => (some y602)) else none) else none)) else (some false)) else (some false)) fun (s578 : Bool) => (some s578)))))))))) else none) else none)) else none)))))
theorem exerguelaw07_OperNoughts_ok {x0 : List Int} {x1 : List Int} {x2 : Int} {r : Bool} (h : exerguelaw07_OperNoughts x0 x1 x2 = some r) : SC Try.prog 5 [lsv (encI .u8) 1 x0, lsv (encI .u8) 1 x1, .int .i64 x2] [] (.bool r) [] := by
  refine K.fn (fn := Try.f5) (by kernel_rfl) (by kernel_rfl) (by kernel_rfl) (by kernel_rfl) (by kernel_rfl) (fun F hFn hFH hFD => ?_)
  unfold exerguelaw07_OperNoughts at h
  refine K.seq (by kernel_rfl) ?_
  refine K.region (by kernel_rfl) ?_
  refine RJ.seg 1 [0, 1, 2, 6] (L2 := [(0, lsv (encI .u8) 1 x0), (1, lsv (encI .u8) 1 x1), (2, .int .i64 x2), (6, .bool false)]) (H2 := []) (by kernel_rfl) ?_
  refine RJ.end (by kernel_rfl) ?_
  refine PJ.next ?_
  refine K.seq (by kernel_rfl) ?_
  refine K.region (by kernel_rfl) ?_
  obtain ⟨y1, hy2, h3⟩ := bindS h
  refine RJ.call0 (d := (some 24)) (f := 10) (args := []) (v := .bool y1) (tr2 := []) (by kernel_rfl) (by kernel_rfl) .nil (exerguelaw07_shown_ok hy2) (by kernel_rfl) ?_
  refine RJ.seg 1 [0, 1, 2, 6, 7] (L2 := [(0, lsv (encI .u8) 1 x0), (1, lsv (encI .u8) 1 x1), (2, .int .i64 x2), (6, .bool false), (7, .bool y1)]) (H2 := []) (by kernel_rfl) ?_
  refine RJ.end (by kernel_rfl) ?_
  refine PJ.next ?_
  refine K.seq (by kernel_rfl) ?_
  refine K.seq (by kernel_rfl) ?_
  refine K.region (by kernel_rfl) ?_
  refine RJ.seg 2 [0, 1, 2, 6, 7, 25, 26] (L2 := [(0, lsv (encI .u8) 1 x0), (1, lsv (encI .u8) 1 x1), (2, .int .i64 x2), (6, .bool false), (7, .bool y1), (25, lsv (encI .u8) 1 x0), (26, lsv (encI .u8) 1 x1)]) (H2 := []) (by kernel_rfl) ?_
  obtain ⟨y4, hy5, h6⟩ := bindS h3
  refine RJ.call0 (d := (some 27)) (f := 11) (args := [lsv (encI .u8) 1 x0, lsv (encI .u8) 1 x1]) (v := .bool y4) (tr2 := []) (by kernel_rfl) (by kernel_rfl) (.cons (Le.refl _) (.cons (Le.refl _) .nil)) (exerguelaw07_few_ok hy5) (by kernel_rfl) ?_
  refine RJ.seg 1 [0, 1, 2, 6, 7, 28] (L2 := [(0, lsv (encI .u8) 1 x0), (1, lsv (encI .u8) 1 x1), (2, .int .i64 x2), (6, .bool false), (7, .bool y1), (28, .bool (!y4))]) (H2 := []) (by kernel_rfl) ?_
  refine RJ.end (by kernel_rfl) ?_
  refine PJ.next ?_
  refine J.caseB 28 (b := (!y4)) (by kernel_rfl) (fun hb7 => ?_) (fun hb7 => ?_)
  · have h8 := condT hb7 h6
    refine K.condT (by kernel_rfl) ?_
    refine K.seq (by kernel_rfl) ?_
    refine K.region (by kernel_rfl) ?_
    refine RJ.seg 2 [0, 1, 2, 6, 7] (L2 := [(0, lsv (encI .u8) 1 x0), (1, lsv (encI .u8) 1 x1), (2, .int .i64 x2), (6, .bool y1), (7, .bool y1)]) (H2 := []) (by kernel_rfl) ?_
    refine RJ.end (by kernel_rfl) ?_
    refine PJ.next ?_
    refine K.ret (by kernel_rfl) ?_
    refine PJ.passRet ?_
    obtain rfl := Option.some.inj h8
    exact K.ret0 (.inr rfl) hFn hFH hFD (by kernel_rfl) (by kernel_rfl) (by kernel_rfl)
  · have h9 := condF hb7 h6
    refine K.condF (by kernel_rfl) ?_
    refine K.skip (by kernel_rfl) ?_
    refine PJ.next ?_
    refine K.seq (by kernel_rfl) ?_
    refine K.region (by kernel_rfl) ?_
    refine RJ.seg 3 [0, 1, 2, 6, 7, 31, 32, 33] (L2 := [(0, lsv (encI .u8) 1 x0), (1, lsv (encI .u8) 1 x1), (2, .int .i64 x2), (6, .bool false), (7, .bool y1), (31, lsv (encI .u8) 1 x0), (32, lsv (encI .u8) 1 x1), (33, .int .i64 x2)]) (H2 := []) (by kernel_rfl) ?_
    obtain ⟨y10, hy11, h12⟩ := bindS h9
    refine RJ.call0 (d := (some 34)) (f := 12) (args := [lsv (encI .u8) 1 x0, lsv (encI .u8) 1 x1, .int .i64 x2]) (v := .tup [.agg [lsv (encI .u8) 1 y10.1.I_, lsv (encI .u8) 1 y10.1.F_, .int .i64 y10.1.W_, .int .i64 y10.1.C_], .int .i64 y10.2]) (tr2 := []) (by kernel_rfl) (by kernel_rfl) (.cons (Le.refl _) (.cons (Le.refl _) (.cons (Le.refl _) .nil))) (oper_Of_ok hy11) (by kernel_rfl) ?_
    refine RJ.seg 6 [0, 1, 2, 6, 7, 8, 9] (L2 := [(0, lsv (encI .u8) 1 x0), (1, lsv (encI .u8) 1 x1), (2, .int .i64 x2), (6, .bool false), (7, .bool y1), (8, .ptr 0 0), (9, .int .i64 y10.2)]) (H2 := [.box [lsv (encI .u8) 1 y10.1.I_, lsv (encI .u8) 1 y10.1.F_, .int .i64 y10.1.W_, .int .i64 y10.1.C_]]) (by kernel_rfl) ?_
    refine RJ.end (by kernel_rfl) ?_
    refine PJ.next ?_
    refine K.seq (by kernel_rfl) ?_
    refine K.region (by kernel_rfl) ?_
    refine RJ.seg 2 [0, 1, 2, 6, 7, 8, 9, 38, 39] (L2 := [(0, lsv (encI .u8) 1 x0), (1, lsv (encI .u8) 1 x1), (2, .int .i64 x2), (6, .bool false), (7, .bool y1), (8, .ptr 0 0), (9, .int .i64 y10.2), (38, .vc 1), (39, lsv (encI .u8) 1 x0)]) (H2 := [.box [lsv (encI .u8) 1 y10.1.I_, lsv (encI .u8) 1 y10.1.F_, .int .i64 y10.1.W_, .int .i64 y10.1.C_], vecL (encI .u8) 1 5 ([0] : List Int)]) (by kernel_rfl) ?_
    obtain ⟨hm, h13⟩ := asrt h12
    refine RJ.rel (d := (some 40)) (ef := ⟨.vc 2, [1], [(1, .gone), (2, .vec (([0] : List Int).length + x0.length) 1 5 (([0] : List Int).flatMap (encI .u8) ++ x0.flatMap (encI .u8)))]⟩) (ef' := ⟨.vc 2, [1], [(1, .gone), (2, vecL (encI .u8) 1 5 (([0] : List Int) ++ x0))]⟩) (c := room (([0] : List Int).length + x0.length)) (tr2 := []) (H2 := [.box [lsv (encI .u8) 1 y10.1.I_, lsv (encI .u8) 1 y10.1.F_, .int .i64 y10.1.W_, .int .i64 y10.1.C_], .gone, vecL (encI .u8) 1 5 (([0] : List Int) ++ x0)]) (by kernel_rfl) hm (fun hc => N.app) (by kernel_rfl) ?_
    refine RJ.seg 2 [0, 1, 2, 6, 7, 8, 9, 40, 41, 42] (L2 := [(0, lsv (encI .u8) 1 x0), (1, lsv (encI .u8) 1 x1), (2, .int .i64 x2), (6, .bool false), (7, .bool y1), (8, .ptr 0 0), (9, .int .i64 y10.2), (40, .vc 2), (41, lsv (encI .u8) 1 x1), (42, .int .i64 x2)]) (H2 := [.box [lsv (encI .u8) 1 y10.1.I_, lsv (encI .u8) 1 y10.1.F_, .int .i64 y10.1.W_, .int .i64 y10.1.C_], .gone, vecL (encI .u8) 1 5 (([0] : List Int) ++ x0)]) (by kernel_rfl) ?_
    obtain ⟨y14, hy15, h16⟩ := bindS h13
    refine RJ.wk (Wk.freeze 2 (n := (([0] : List Int) ++ x0).length) (k := 1) (e := 5) (cs := (([0] : List Int) ++ x0).flatMap (encI .u8)) (by kernel_rfl)) ?_
    refine RJ.call0 (d := (some 43)) (f := 12) (args := [lsv (encI .u8) 1 (([0] : List Int) ++ x0), lsv (encI .u8) 1 x1, .int .i64 x2]) (v := .tup [.agg [lsv (encI .u8) 1 y14.1.I_, lsv (encI .u8) 1 y14.1.F_, .int .i64 y14.1.W_, .int .i64 y14.1.C_], .int .i64 y14.2]) (tr2 := []) (by kernel_rfl) (by kernel_rfl) (.cons (Le.refl _) (.cons (Le.refl _) (.cons (Le.refl _) .nil))) (oper_Of_ok hy15) (by kernel_rfl) ?_
    refine RJ.seg 6 [0, 1, 2, 6, 7, 8, 9, 10, 11] (L2 := [(0, lsv (encI .u8) 1 x0), (1, lsv (encI .u8) 1 x1), (2, .int .i64 x2), (6, .bool false), (7, .bool y1), (8, .ptr 0 0), (9, .int .i64 y10.2), (10, .ptr 3 0), (11, .int .i64 y14.2)]) (H2 := [.box [lsv (encI .u8) 1 y10.1.I_, lsv (encI .u8) 1 y10.1.F_, .int .i64 y10.1.W_, .int .i64 y10.1.C_], .gone, .gone, .box [lsv (encI .u8) 1 y14.1.I_, lsv (encI .u8) 1 y14.1.F_, .int .i64 y14.1.W_, .int .i64 y14.1.C_]]) (by kernel_rfl) ?_
    refine RJ.end (by kernel_rfl) ?_
    refine PJ.next ?_
    refine K.seq (by kernel_rfl) ?_
    refine K.region (by kernel_rfl) ?_
    refine RJ.seg 3 [2, 6, 7, 8, 9, 10, 11, 47, 48, 49] (L2 := [(2, .int .i64 x2), (6, .bool false), (7, .bool y1), (8, .ptr 0 0), (9, .int .i64 y10.2), (10, .ptr 3 0), (11, .int .i64 y14.2), (47, lsv (encI .u8) 1 x0), (48, .nl), (49, lsv (encI .u8) 1 x1)]) (H2 := [.box [lsv (encI .u8) 1 y10.1.I_, lsv (encI .u8) 1 y10.1.F_, .int .i64 y10.1.W_, .int .i64 y10.1.C_], .gone, .gone, .box [lsv (encI .u8) 1 y14.1.I_, lsv (encI .u8) 1 y14.1.F_, .int .i64 y14.1.W_, .int .i64 y14.1.C_]]) (by kernel_rfl) ?_
    obtain ⟨hm, h17⟩ := asrt h16
    refine RJ.rel (d := (some 50)) (ef := ⟨.vc 4, [], [(4, .vec x1.length 1 5 (x1.flatMap (encI .u8)))]⟩) (ef' := ⟨.vc 4, [], [(4, .vec x1.length 1 5 (x1.flatMap (encI .u8)))]⟩) (c := room x1.length) (tr2 := []) (H2 := [.box [lsv (encI .u8) 1 y10.1.I_, lsv (encI .u8) 1 y10.1.F_, .int .i64 y10.1.W_, .int .i64 y10.1.C_], .gone, .gone, .box [lsv (encI .u8) 1 y14.1.I_, lsv (encI .u8) 1 y14.1.F_, .int .i64 y14.1.W_, .int .i64 y14.1.C_], vecL (encI .u8) 1 5 x1]) (by kernel_rfl) hm (fun hc => rfl) (by kernel_rfl) ?_
    refine RJ.seg 1 [2, 6, 7, 8, 9, 10, 11, 47, 50, 51] (L2 := [(2, .int .i64 x2), (6, .bool false), (7, .bool y1), (8, .ptr 0 0), (9, .int .i64 y10.2), (10, .ptr 3 0), (11, .int .i64 y14.2), (47, lsv (encI .u8) 1 x0), (50, .vc 4), (51, .vc 5)]) (H2 := [.box [lsv (encI .u8) 1 y10.1.I_, lsv (encI .u8) 1 y10.1.F_, .int .i64 y10.1.W_, .int .i64 y10.1.C_], .gone, .gone, .box [lsv (encI .u8) 1 y14.1.I_, lsv (encI .u8) 1 y14.1.F_, .int .i64 y14.1.W_, .int .i64 y14.1.C_], vecL (encI .u8) 1 5 x1, vecL (encI .u8) 1 5 ([0] : List Int)]) (by kernel_rfl) ?_
    obtain ⟨hm, h18⟩ := asrt h17
    refine RJ.rel (d := (some 52)) (ef := ⟨.vc 6, [4, 5], [(4, .gone), (6, .vec (x1.length + ([0] : List Int).length) 1 5 (x1.flatMap (encI .u8) ++ ([0] : List Int).flatMap (encI .u8)))]⟩) (ef' := ⟨.vc 6, [4, 5], [(4, .gone), (6, vecL (encI .u8) 1 5 (x1 ++ ([0] : List Int)))]⟩) (c := room (x1.length + ([0] : List Int).length)) (tr2 := []) (H2 := [.box [lsv (encI .u8) 1 y10.1.I_, lsv (encI .u8) 1 y10.1.F_, .int .i64 y10.1.W_, .int .i64 y10.1.C_], .gone, .gone, .box [lsv (encI .u8) 1 y14.1.I_, lsv (encI .u8) 1 y14.1.F_, .int .i64 y14.1.W_, .int .i64 y14.1.C_], .gone, vecL (encI .u8) 1 5 ([0] : List Int), vecL (encI .u8) 1 5 (x1 ++ ([0] : List Int))]) (by kernel_rfl) hm (fun hc => N.app) (by kernel_rfl) ?_
    refine RJ.seg 1 [6, 7, 8, 9, 10, 11, 47, 52, 53] (L2 := [(6, .bool false), (7, .bool y1), (8, .ptr 0 0), (9, .int .i64 y10.2), (10, .ptr 3 0), (11, .int .i64 y14.2), (47, lsv (encI .u8) 1 x0), (52, .vc 6), (53, .int .i64 x2)]) (H2 := [.box [lsv (encI .u8) 1 y10.1.I_, lsv (encI .u8) 1 y10.1.F_, .int .i64 y10.1.W_, .int .i64 y10.1.C_], .gone, .gone, .box [lsv (encI .u8) 1 y14.1.I_, lsv (encI .u8) 1 y14.1.F_, .int .i64 y14.1.W_, .int .i64 y14.1.C_], .gone, vecL (encI .u8) 1 5 ([0] : List Int), vecL (encI .u8) 1 5 (x1 ++ ([0] : List Int))]) (by kernel_rfl) ?_
    obtain ⟨y19, hy20, h21⟩ := bindS h18
    refine RJ.wk (Wk.freeze 6 (n := (x1 ++ ([0] : List Int)).length) (k := 1) (e := 5) (cs := (x1 ++ ([0] : List Int)).flatMap (encI .u8)) (by kernel_rfl)) ?_
    refine RJ.call0 (d := (some 54)) (f := 12) (args := [lsv (encI .u8) 1 x0, lsv (encI .u8) 1 (x1 ++ ([0] : List Int)), .int .i64 x2]) (v := .tup [.agg [lsv (encI .u8) 1 y19.1.I_, lsv (encI .u8) 1 y19.1.F_, .int .i64 y19.1.W_, .int .i64 y19.1.C_], .int .i64 y19.2]) (tr2 := []) (by kernel_rfl) (by kernel_rfl) (.cons (Le.refl _) (.cons (Le.refl _) (.cons (Le.refl _) .nil))) (oper_Of_ok hy20) (by kernel_rfl) ?_
    refine RJ.seg 6 [6, 7, 8, 9, 10, 11, 12, 13] (L2 := [(6, .bool false), (7, .bool y1), (8, .ptr 0 0), (9, .int .i64 y10.2), (10, .ptr 3 0), (11, .int .i64 y14.2), (12, .ptr 7 0), (13, .int .i64 y19.2)]) (H2 := [.box [lsv (encI .u8) 1 y10.1.I_, lsv (encI .u8) 1 y10.1.F_, .int .i64 y10.1.W_, .int .i64 y10.1.C_], .gone, .gone, .box [lsv (encI .u8) 1 y14.1.I_, lsv (encI .u8) 1 y14.1.F_, .int .i64 y14.1.W_, .int .i64 y14.1.C_], .gone, vecL (encI .u8) 1 5 ([0] : List Int), .gone, .box [lsv (encI .u8) 1 y19.1.I_, lsv (encI .u8) 1 y19.1.F_, .int .i64 y19.1.W_, .int .i64 y19.1.C_]]) (by kernel_rfl) ?_
    refine RJ.end (by kernel_rfl) ?_
    refine PJ.next ?_
    obtain ⟨y50, hy51, h52⟩ := bindS h21
    refine K.cutX (by kernel_rfl) (fun (s49 : Unit) => ([(6, .bool false), (7, .bool y1), (8, .ptr 0 0), (9, .int .i64 y10.2), (12, .ptr 1 0)], [.box [lsv (encI .u8) 1 y10.1.I_, lsv (encI .u8) 1 y10.1.F_, .int .i64 y10.1.W_, .int .i64 y10.1.C_], .box [lsv (encI .u8) 1 y19.1.I_, lsv (encI .u8) 1 y19.1.F_, .int .i64 y19.1.W_, .int .i64 y19.1.C_]])) y50 ?_ (fun s49 hs => ?_)
    · obtain ⟨s63, hy65, h67⟩ := bindS hy51
      refine K.cutN (by kernel_rfl) (fun (s63 : Bool) => ([(6, .bool false), (7, .bool y1), (8, .ptr 0 0), (9, .int .i64 y10.2), (12, .ptr 1 0), (70, .bool s63)], [.box [lsv (encI .u8) 1 y10.1.I_, lsv (encI .u8) 1 y10.1.F_, .int .i64 y10.1.W_, .int .i64 y10.1.C_], .box [lsv (encI .u8) 1 y19.1.I_, lsv (encI .u8) 1 y19.1.F_, .int .i64 y19.1.W_, .int .i64 y19.1.C_]])) s63 ?_ ?_
      · refine K.region (by kernel_rfl) ?_
        refine RJ.seg 4 [6, 7, 8, 9, 10, 12, 13, 60] (L2 := [(6, .bool false), (7, .bool y1), (8, .ptr 0 0), (9, .int .i64 y10.2), (10, .ptr 3 0), (12, .ptr 7 0), (13, .int .i64 y19.2), (60, .bool (decide (¬ y10.2 = y14.2)))]) (H2 := [.box [lsv (encI .u8) 1 y10.1.I_, lsv (encI .u8) 1 y10.1.F_, .int .i64 y10.1.W_, .int .i64 y10.1.C_], .gone, .gone, .box [lsv (encI .u8) 1 y14.1.I_, lsv (encI .u8) 1 y14.1.F_, .int .i64 y14.1.W_, .int .i64 y14.1.C_], .gone, vecL (encI .u8) 1 5 ([0] : List Int), .gone, .box [lsv (encI .u8) 1 y19.1.I_, lsv (encI .u8) 1 y19.1.F_, .int .i64 y19.1.W_, .int .i64 y19.1.C_]]) (by kernel_rfl) ?_
        refine RJ.caseB 60 (b := (decide (¬ y10.2 = y14.2))) (by kernel_rfl) (fun hb68 => ?_) (fun hb68 => ?_)
        · have h69 := condT hb68 hy65
          refine RJ.seg 10 [6, 7, 8, 9, 12, 70] (L2 := [(6, .bool false), (7, .bool y1), (8, .ptr 0 0), (9, .int .i64 y10.2), (12, .ptr 7 0), (70, .bool true)]) (H2 := [.box [lsv (encI .u8) 1 y10.1.I_, lsv (encI .u8) 1 y10.1.F_, .int .i64 y10.1.W_, .int .i64 y10.1.C_], .gone, .gone, .box [lsv (encI .u8) 1 y14.1.I_, lsv (encI .u8) 1 y14.1.F_, .int .i64 y14.1.W_, .int .i64 y14.1.C_], .gone, vecL (encI .u8) 1 5 ([0] : List Int), .gone, .box [lsv (encI .u8) 1 y19.1.I_, lsv (encI .u8) 1 y19.1.F_, .int .i64 y19.1.W_, .int .i64 y19.1.C_]]) (by kernel_rfl) ?_
          refine RJ.end (by kernel_rfl) ?_
          obtain rfl := Option.some.inj h69
          refine PJ.wk (Wk.sel (L2 := [(6, .bool false), (7, .bool y1), (8, .ptr 0 0), (9, .int .i64 y10.2), (12, .ptr 1 0), (70, .bool true)]) (H2 := [.box [lsv (encI .u8) 1 y10.1.I_, lsv (encI .u8) 1 y10.1.F_, .int .i64 y10.1.W_, .int .i64 y10.1.C_], .box [lsv (encI .u8) 1 y19.1.I_, lsv (encI .u8) 1 y19.1.F_, .int .i64 y19.1.W_, .int .i64 y19.1.C_]]) 0 (by rw [hFH]; rfl) hFD [0, 7] (by kernel_rfl) (by kernel_rfl) (by decide) (by kernel_rfl) (by kernel_rfl) (by kernel_rfl) (by kernel_rfl)) ?_
          exact PJ.cutN [6, 7, 8, 9, 12, 70] (by kernel_rfl) (by kernel_rfl)
        · have h70 := condF hb68 hy65
          refine RJ.seg 5 [6, 7, 8, 9, 10, 12, 65] (L2 := [(6, .bool false), (7, .bool y1), (8, .ptr 0 0), (9, .int .i64 y10.2), (10, .ptr 3 0), (12, .ptr 7 0), (65, .bool (decide (¬ y10.2 = y19.2)))]) (H2 := [.box [lsv (encI .u8) 1 y10.1.I_, lsv (encI .u8) 1 y10.1.F_, .int .i64 y10.1.W_, .int .i64 y10.1.C_], .gone, .gone, .box [lsv (encI .u8) 1 y14.1.I_, lsv (encI .u8) 1 y14.1.F_, .int .i64 y14.1.W_, .int .i64 y14.1.C_], .gone, vecL (encI .u8) 1 5 ([0] : List Int), .gone, .box [lsv (encI .u8) 1 y19.1.I_, lsv (encI .u8) 1 y19.1.F_, .int .i64 y19.1.W_, .int .i64 y19.1.C_]]) (by kernel_rfl) ?_
          refine RJ.caseB 65 (b := (decide (¬ y10.2 = y19.2))) (by kernel_rfl) (fun hb71 => ?_) (fun hb71 => ?_)
          · have h72 := condT hb71 h70
            refine RJ.seg 5 [6, 7, 8, 9, 12, 70] (L2 := [(6, .bool false), (7, .bool y1), (8, .ptr 0 0), (9, .int .i64 y10.2), (12, .ptr 7 0), (70, .bool true)]) (H2 := [.box [lsv (encI .u8) 1 y10.1.I_, lsv (encI .u8) 1 y10.1.F_, .int .i64 y10.1.W_, .int .i64 y10.1.C_], .gone, .gone, .box [lsv (encI .u8) 1 y14.1.I_, lsv (encI .u8) 1 y14.1.F_, .int .i64 y14.1.W_, .int .i64 y14.1.C_], .gone, vecL (encI .u8) 1 5 ([0] : List Int), .gone, .box [lsv (encI .u8) 1 y19.1.I_, lsv (encI .u8) 1 y19.1.F_, .int .i64 y19.1.W_, .int .i64 y19.1.C_]]) (by kernel_rfl) ?_
            refine RJ.end (by kernel_rfl) ?_
            obtain rfl := Option.some.inj h72
            refine PJ.wk (Wk.sel (L2 := [(6, .bool false), (7, .bool y1), (8, .ptr 0 0), (9, .int .i64 y10.2), (12, .ptr 1 0), (70, .bool true)]) (H2 := [.box [lsv (encI .u8) 1 y10.1.I_, lsv (encI .u8) 1 y10.1.F_, .int .i64 y10.1.W_, .int .i64 y10.1.C_], .box [lsv (encI .u8) 1 y19.1.I_, lsv (encI .u8) 1 y19.1.F_, .int .i64 y19.1.W_, .int .i64 y19.1.C_]]) 0 (by rw [hFH]; rfl) hFD [0, 7] (by kernel_rfl) (by kernel_rfl) (by decide) (by kernel_rfl) (by kernel_rfl) (by kernel_rfl) (by kernel_rfl)) ?_
            exact PJ.cutN [6, 7, 8, 9, 12, 70] (by kernel_rfl) (by kernel_rfl)
          · have h73 := condF hb71 h70
            refine RJ.seg 2 [6, 7, 8, 9, 12, 65, 66, 67] (L2 := [(6, .bool false), (7, .bool y1), (8, .ptr 0 0), (9, .int .i64 y10.2), (12, .ptr 7 0), (65, .bool false), (66, .agg [lsv (encI .u8) 1 y10.1.I_, lsv (encI .u8) 1 y10.1.F_, .int .i64 y10.1.W_, .int .i64 y10.1.C_]), (67, .agg [lsv (encI .u8) 1 y14.1.I_, lsv (encI .u8) 1 y14.1.F_, .int .i64 y14.1.W_, .int .i64 y14.1.C_])]) (H2 := [.box [lsv (encI .u8) 1 y10.1.I_, lsv (encI .u8) 1 y10.1.F_, .int .i64 y10.1.W_, .int .i64 y10.1.C_], .gone, .gone, .box [lsv (encI .u8) 1 y14.1.I_, lsv (encI .u8) 1 y14.1.F_, .int .i64 y14.1.W_, .int .i64 y14.1.C_], .gone, vecL (encI .u8) 1 5 ([0] : List Int), .gone, .box [lsv (encI .u8) 1 y19.1.I_, lsv (encI .u8) 1 y19.1.F_, .int .i64 y19.1.W_, .int .i64 y19.1.C_]]) (by kernel_rfl) ?_
            obtain ⟨y74, hy75, h76⟩ := bindS h73
            refine RJ.call0 (d := (some 68)) (f := 15) (args := [.agg [lsv (encI .u8) 1 y10.1.I_, lsv (encI .u8) 1 y10.1.F_, .int .i64 y10.1.W_, .int .i64 y10.1.C_], .agg [lsv (encI .u8) 1 y14.1.I_, lsv (encI .u8) 1 y14.1.F_, .int .i64 y14.1.W_, .int .i64 y14.1.C_]]) (v := .bool y74) (tr2 := []) (by kernel_rfl) (by kernel_rfl) (.cons (Le.refl _) (.cons (Le.refl _) .nil)) (exergueref07_Same_ok hy75) (by kernel_rfl) ?_
            refine RJ.seg 2 [6, 7, 8, 9, 12, 70] (L2 := [(6, .bool false), (7, .bool y1), (8, .ptr 0 0), (9, .int .i64 y10.2), (12, .ptr 7 0), (70, .bool (!y74))]) (H2 := [.box [lsv (encI .u8) 1 y10.1.I_, lsv (encI .u8) 1 y10.1.F_, .int .i64 y10.1.W_, .int .i64 y10.1.C_], .gone, .gone, .box [lsv (encI .u8) 1 y14.1.I_, lsv (encI .u8) 1 y14.1.F_, .int .i64 y14.1.W_, .int .i64 y14.1.C_], .gone, vecL (encI .u8) 1 5 ([0] : List Int), .gone, .box [lsv (encI .u8) 1 y19.1.I_, lsv (encI .u8) 1 y19.1.F_, .int .i64 y19.1.W_, .int .i64 y19.1.C_]]) (by kernel_rfl) ?_
            refine RJ.end (by kernel_rfl) ?_
            obtain rfl := Option.some.inj h76
            refine PJ.wk (Wk.sel (L2 := [(6, .bool false), (7, .bool y1), (8, .ptr 0 0), (9, .int .i64 y10.2), (12, .ptr 1 0), (70, .bool (!y74))]) (H2 := [.box [lsv (encI .u8) 1 y10.1.I_, lsv (encI .u8) 1 y10.1.F_, .int .i64 y10.1.W_, .int .i64 y10.1.C_], .box [lsv (encI .u8) 1 y19.1.I_, lsv (encI .u8) 1 y19.1.F_, .int .i64 y19.1.W_, .int .i64 y19.1.C_]]) 0 (by rw [hFH]; rfl) hFD [0, 7] (by kernel_rfl) (by kernel_rfl) (by decide) (by kernel_rfl) (by kernel_rfl) (by kernel_rfl) (by kernel_rfl)) ?_
            exact PJ.cutN [6, 7, 8, 9, 12, 70] (by kernel_rfl) (by kernel_rfl)
      · refine J.caseB 70 (b := s63) (by kernel_rfl) (fun hb77 => ?_) (fun hb77 => ?_)
        · have h78 := condT hb77 h67
          refine K.condT (by kernel_rfl) ?_
          refine K.seq (by kernel_rfl) ?_
          refine K.region (by kernel_rfl) ?_
          refine RJ.seg 1 [6, 7, 8, 9, 12] (L2 := [(6, .bool false), (7, .bool y1), (8, .ptr 0 0), (9, .int .i64 y10.2), (12, .ptr 1 0)]) (H2 := [.box [lsv (encI .u8) 1 y10.1.I_, lsv (encI .u8) 1 y10.1.F_, .int .i64 y10.1.W_, .int .i64 y10.1.C_], .box [lsv (encI .u8) 1 y19.1.I_, lsv (encI .u8) 1 y19.1.F_, .int .i64 y19.1.W_, .int .i64 y19.1.C_]]) (by kernel_rfl) ?_
          refine RJ.end (by kernel_rfl) ?_
          refine PJ.next ?_
          refine K.ret (by kernel_rfl) ?_
          obtain rfl := Option.some.inj h78
          have h80 := joinX_inr h52
          refine PJ.cutXr (fun e => nomatch e) ?_
          obtain rfl := Option.some.inj h80
          exact K.ret0 (.inr rfl) hFn hFH hFD (by kernel_rfl) (by kernel_rfl) (by kernel_rfl)
        · have h79 := condF hb77 h67
          refine K.condF (by kernel_rfl) ?_
          refine K.skip (by kernel_rfl) ?_
          obtain rfl := Option.some.inj h79
          exact PJ.cutXl [6, 7, 8, 9, 12] (by kernel_rfl) (by kernel_rfl)
    · subst hs
      have h53 := joinX_inl h52
      refine K.seq (by kernel_rfl) ?_
      refine K.seq (by kernel_rfl) ?_
      refine K.region (by kernel_rfl) ?_
      refine RJ.seg 2 [6, 7, 8, 9, 12, 72] (L2 := [(6, .bool false), (7, .bool y1), (8, .ptr 0 0), (9, .int .i64 y10.2), (12, .ptr 1 0), (72, .bool (decide (¬ y10.2 = 0)))]) (H2 := [.box [lsv (encI .u8) 1 y10.1.I_, lsv (encI .u8) 1 y10.1.F_, .int .i64 y10.1.W_, .int .i64 y10.1.C_], .box [lsv (encI .u8) 1 y19.1.I_, lsv (encI .u8) 1 y19.1.F_, .int .i64 y19.1.W_, .int .i64 y19.1.C_]]) (by kernel_rfl) ?_
      refine RJ.end (by kernel_rfl) ?_
      refine PJ.next ?_
      refine J.caseB 72 (b := (decide (¬ y10.2 = 0))) (by kernel_rfl) (fun hb81 => ?_) (fun hb81 => ?_)
      · have h82 := condT hb81 h53
        refine K.condT (by kernel_rfl) ?_
        obtain ⟨s87, hy89, h91⟩ := bindS h82
        refine K.cutN (by kernel_rfl) (fun (s87 : Bool) => ([(6, .bool s87), (7, .bool y1), (8, .ptr 0 0), (12, .ptr 1 0)], [.box [lsv (encI .u8) 1 y10.1.I_, lsv (encI .u8) 1 y10.1.F_, .int .i64 y10.1.W_, .int .i64 y10.1.C_], .box [lsv (encI .u8) 1 y19.1.I_, lsv (encI .u8) 1 y19.1.F_, .int .i64 y19.1.W_, .int .i64 y19.1.C_]])) s87 ?_ ?_
        · refine K.region (by kernel_rfl) ?_
          refine RJ.seg 2 [6, 7, 8, 9, 12, 74] (L2 := [(6, .bool false), (7, .bool y1), (8, .ptr 0 0), (9, .int .i64 y10.2), (12, .ptr 1 0), (74, .bool y1)]) (H2 := [.box [lsv (encI .u8) 1 y10.1.I_, lsv (encI .u8) 1 y10.1.F_, .int .i64 y10.1.W_, .int .i64 y10.1.C_], .box [lsv (encI .u8) 1 y19.1.I_, lsv (encI .u8) 1 y19.1.F_, .int .i64 y19.1.W_, .int .i64 y19.1.C_]]) (by kernel_rfl) ?_
          refine RJ.caseB 74 (b := y1) (by kernel_rfl) (fun hb92 => ?_) (fun hb92 => ?_)
          · have h93 := condT hb92 hy89
            refine RJ.seg 4 [6, 7, 8, 12] (L2 := [(6, .bool (decide (y10.2 = 1))), (7, .bool y1), (8, .ptr 0 0), (12, .ptr 1 0)]) (H2 := [.box [lsv (encI .u8) 1 y10.1.I_, lsv (encI .u8) 1 y10.1.F_, .int .i64 y10.1.W_, .int .i64 y10.1.C_], .box [lsv (encI .u8) 1 y19.1.I_, lsv (encI .u8) 1 y19.1.F_, .int .i64 y19.1.W_, .int .i64 y19.1.C_]]) (by kernel_rfl) ?_
            refine RJ.end (by kernel_rfl) ?_
            obtain rfl := Option.some.inj h93
            exact PJ.cutN [6, 7, 8, 12] (by kernel_rfl) (by kernel_rfl)
          · have h94 := condF hb92 hy89
            refine RJ.seg 4 [6, 7, 8, 12] (L2 := [(6, .bool false), (7, .bool y1), (8, .ptr 0 0), (12, .ptr 1 0)]) (H2 := [.box [lsv (encI .u8) 1 y10.1.I_, lsv (encI .u8) 1 y10.1.F_, .int .i64 y10.1.W_, .int .i64 y10.1.C_], .box [lsv (encI .u8) 1 y19.1.I_, lsv (encI .u8) 1 y19.1.F_, .int .i64 y19.1.W_, .int .i64 y19.1.C_]]) (by kernel_rfl) ?_
            refine RJ.end (by kernel_rfl) ?_
            obtain rfl := Option.some.inj h94
            exact PJ.cutN [6, 7, 8, 12] (by kernel_rfl) (by kernel_rfl)
        · refine K.ret (by kernel_rfl) ?_
          refine PJ.passRet ?_
          obtain rfl := Option.some.inj h91
          exact K.ret0 (.inr rfl) hFn hFH hFD (by kernel_rfl) (by kernel_rfl) (by kernel_rfl)
      · have h83 := condF hb81 h53
        refine K.condF (by kernel_rfl) ?_
        refine K.skip (by kernel_rfl) ?_
        refine PJ.next ?_
        refine K.seq (by kernel_rfl) ?_
        refine K.region (by kernel_rfl) ?_
        refine RJ.seg 1 [6, 7, 8, 12, 14] (L2 := [(6, .bool false), (7, .bool y1), (8, .ptr 0 0), (12, .ptr 1 0), (14, .str ([110, 105, 119, 116, 99, 101] : List UInt8))]) (H2 := [.box [lsv (encI .u8) 1 y10.1.I_, lsv (encI .u8) 1 y10.1.F_, .int .i64 y10.1.W_, .int .i64 y10.1.C_], .box [lsv (encI .u8) 1 y19.1.I_, lsv (encI .u8) 1 y19.1.F_, .int .i64 y19.1.W_, .int .i64 y19.1.C_]]) (by kernel_rfl) ?_
        refine RJ.end (by kernel_rfl) ?_
        refine PJ.next ?_
        obtain ⟨y321, hy322, h323⟩ := bindS h83
        refine K.cutX (by kernel_rfl) (fun (s320 : Unit) => ([(6, .bool false), (7, .bool y1), (8, .ptr 0 0), (12, .ptr 1 0)], [.box [lsv (encI .u8) 1 y10.1.I_, lsv (encI .u8) 1 y10.1.F_, .int .i64 y10.1.W_, .int .i64 y10.1.C_], .box [lsv (encI .u8) 1 y19.1.I_, lsv (encI .u8) 1 y19.1.F_, .int .i64 y19.1.W_, .int .i64 y19.1.C_]])) y321 ?_ (fun s320 hs => ?_)
        · refine K.seq (by kernel_rfl) ?_
          refine K.region (by kernel_rfl) ?_
          refine RJ.seg 1 [6, 7, 8, 12, 14, 15] (L2 := [(6, .bool false), (7, .bool y1), (8, .ptr 0 0), (12, .ptr 1 0), (14, .str ([110, 105, 119, 116, 99, 101] : List UInt8)), (15, .int .i64 0)]) (H2 := [.box [lsv (encI .u8) 1 y10.1.I_, lsv (encI .u8) 1 y10.1.F_, .int .i64 y10.1.W_, .int .i64 y10.1.C_], .box [lsv (encI .u8) 1 y19.1.I_, lsv (encI .u8) 1 y19.1.F_, .int .i64 y19.1.W_, .int .i64 y19.1.C_]]) (by kernel_rfl) ?_
          refine RJ.end (by kernel_rfl) ?_
          refine PJ.next ?_
          refine K.block 0 (by kernel_rfl) ?_
          refine K.loop (by kernel_rfl) (fun (s325 : Int) => ([(6, .bool false), (7, .bool y1), (8, .ptr 0 0), (12, .ptr 1 0), (14, .str ([110, 105, 119, 116, 99, 101] : List UInt8)), (15, .int .i64 s325)], [.box [lsv (encI .u8) 1 y10.1.I_, lsv (encI .u8) 1 y10.1.F_, .int .i64 y10.1.W_, .int .i64 y10.1.C_], .box [lsv (encI .u8) 1 y19.1.I_, lsv (encI .u8) 1 y19.1.F_, .int .i64 y19.1.W_, .int .i64 y19.1.C_]])) hy322 [6, 7, 8, 12, 14, 15] (by kernel_rfl) (by kernel_rfl) (fun s325 x475 hs474 => ?_)
          refine K.seq (by kernel_rfl) ?_
          refine K.seq (by kernel_rfl) ?_
          refine K.region (by kernel_rfl) ?_
          refine RJ.seg 4 [6, 7, 8, 12, 14, 15, 81] (L2 := [(6, .bool false), (7, .bool y1), (8, .ptr 0 0), (12, .ptr 1 0), (14, .str ([110, 105, 119, 116, 99, 101] : List UInt8)), (15, .int .i64 s325), (81, .bool ((decide (s325 < (([110, 105, 119, 116, 99, 101] : List UInt8).length : Int)))))]) (H2 := [.box [lsv (encI .u8) 1 y10.1.I_, lsv (encI .u8) 1 y10.1.F_, .int .i64 y10.1.W_, .int .i64 y10.1.C_], .box [lsv (encI .u8) 1 y19.1.I_, lsv (encI .u8) 1 y19.1.F_, .int .i64 y19.1.W_, .int .i64 y19.1.C_]]) (by kernel_rfl) ?_
          refine RJ.end (by kernel_rfl) ?_
          refine PJ.next ?_
          refine J.caseB 81 (b := (decide (s325 < (([110, 105, 119, 116, 99, 101] : List UInt8).length : Int)))) (by kernel_rfl) (fun hb476 => ?_) (fun hb476 => ?_)
          · have h477 := condT hb476 hs474
            refine K.condT (by kernel_rfl) ?_
            refine K.skip (by kernel_rfl) ?_
            refine PJ.next ?_
            obtain ⟨y512, hy513, h514⟩ := bindS h477
            refine K.cutX (by kernel_rfl) (fun (s511 : Unit) => ([(6, .bool false), (7, .bool y1), (8, .ptr 0 0), (12, .ptr 1 0), (14, .str ([110, 105, 119, 116, 99, 101] : List UInt8)), (15, .int .i64 s325)], [.box [lsv (encI .u8) 1 y10.1.I_, lsv (encI .u8) 1 y10.1.F_, .int .i64 y10.1.W_, .int .i64 y10.1.C_], .box [lsv (encI .u8) 1 y19.1.I_, lsv (encI .u8) 1 y19.1.F_, .int .i64 y19.1.W_, .int .i64 y19.1.C_]])) y512 ?_ (fun s511 hs => ?_)
            · refine K.block 1 (by kernel_rfl) ?_
              refine K.seq (by kernel_rfl) ?_
              refine J.keep [6, 7, 8, 12, 14, 15] (L2 := [(6, .bool false), (7, .bool y1), (8, .ptr 0 0), (12, .ptr 1 0), (14, .str ([110, 105, 119, 116, 99, 101] : List UInt8)), (15, .int .i64 s325)]) (by kernel_rfl) ?_
              refine K.draw (by kernel_rfl) (by kernel_rfl) (by kernel_rfl) (H2 := [.box [lsv (encI .u8) 1 y10.1.I_, lsv (encI .u8) 1 y10.1.F_, .int .i64 y10.1.W_, .int .i64 y10.1.C_], .box [lsv (encI .u8) 1 y19.1.I_, lsv (encI .u8) 1 y19.1.F_, .int .i64 y19.1.W_, .int .i64 y19.1.C_], .res]) (by kernel_rfl) (n := 2) (by kernel_rfl) ?_
              refine RJ.segD 3 (tr2 := [([0, 1], []), ([], []), ([], [])]) (L2 := [(87, .int .i64 s325), (86, .str ([110, 105, 119, 116, 99, 101] : List UInt8)), (85, .agg [lsv (encI .u8) 1 y10.1.I_, lsv (encI .u8) 1 y10.1.F_, .int .i64 y10.1.W_, .int .i64 y10.1.C_]), (6, .bool false), (7, .bool y1), (8, .ptr 0 0), (12, .ptr 1 0), (14, .str ([110, 105, 119, 116, 99, 101] : List UInt8)), (15, .int .i64 s325)]) (H2 := [.box [lsv (encI .u8) 1 y10.1.I_, lsv (encI .u8) 1 y10.1.F_, .int .i64 y10.1.W_, .int .i64 y10.1.C_], .box [lsv (encI .u8) 1 y19.1.I_, lsv (encI .u8) 1 y19.1.F_, .int .i64 y19.1.W_, .int .i64 y19.1.C_], .res]) (by kernel_rfl) ?_
              obtain ⟨hm, h516⟩ := asrt hy513
              refine RJ.rel (d := (some 88)) (ef := ⟨.int .u8 (((([110, 105, 119, 116, 99, 101] : List UInt8).getD (s325 : Int).toNat 0).toNat : Nat) : Int), [], []⟩) (ef' := ⟨.int .u8 (((([110, 105, 119, 116, 99, 101] : List UInt8).getD (s325 : Int).toNat 0).toNat : Nat) : Int), [], []⟩) (c := inR s325 ([110, 105, 119, 116, 99, 101] : List UInt8).length) (tr2 := [([0, 1], []), ([], []), ([], []), ([], [])]) (H2 := [.box [lsv (encI .u8) 1 y10.1.I_, lsv (encI .u8) 1 y10.1.F_, .int .i64 y10.1.W_, .int .i64 y10.1.C_], .box [lsv (encI .u8) 1 y19.1.I_, lsv (encI .u8) 1 y19.1.F_, .int .i64 y19.1.W_, .int .i64 y19.1.C_], .res]) (by kernel_rfl) hm (fun hc => rfl) (by kernel_rfl) ?_
              obtain ⟨y517, hy518, h519⟩ := bindS h516
              refine RJ.call0 (d := (some 89)) (f := 18) (args := [.agg [lsv (encI .u8) 1 y10.1.I_, lsv (encI .u8) 1 y10.1.F_, .int .i64 y10.1.W_, .int .i64 y10.1.C_], .int .u8 ((((([110, 105, 119, 116, 99, 101] : List UInt8).getD (s325 : Int).toNat 0).toNat : Nat) : Int))]) (v := .tup [lsv (encI .u8) 1 y517.1, .bool y517.2]) (tr2 := [([0, 1], []), ([], []), ([], []), ([], []), ([], [4, 5])]) (by kernel_rfl) (by kernel_rfl) (.cons (Le.refl _) (.cons (Le.refl _) .nil)) (oper_Operand_ok hy518) (by kernel_rfl) ?_
              refine RJ.segD 5 (tr2 := [([0, 1], []), ([], []), ([], []), ([], []), ([], [4, 5]), ([], []), ([], []), ([], []), ([], []), ([], [])]) (L2 := [(17, .bool y517.2), (16, lsv (encI .u8) 1 y517.1), (91, .bool y517.2), (90, lsv (encI .u8) 1 y517.1), (84, .tup [lsv (encI .u8) 1 y517.1, .bool y517.2]), (89, .tup [lsv (encI .u8) 1 y517.1, .bool y517.2]), (88, .int .u8 ((((([110, 105, 119, 116, 99, 101] : List UInt8).getD (s325 : Int).toNat 0).toNat : Nat) : Int))), (87, .int .i64 s325), (86, .str ([110, 105, 119, 116, 99, 101] : List UInt8)), (85, .agg [lsv (encI .u8) 1 y10.1.I_, lsv (encI .u8) 1 y10.1.F_, .int .i64 y10.1.W_, .int .i64 y10.1.C_]), (6, .bool false), (7, .bool y1), (8, .ptr 0 0), (12, .ptr 1 0), (14, .str ([110, 105, 119, 116, 99, 101] : List UInt8)), (15, .int .i64 s325)]) (H2 := [.box [lsv (encI .u8) 1 y10.1.I_, lsv (encI .u8) 1 y10.1.F_, .int .i64 y10.1.W_, .int .i64 y10.1.C_], .box [lsv (encI .u8) 1 y19.1.I_, lsv (encI .u8) 1 y19.1.F_, .int .i64 y19.1.W_, .int .i64 y19.1.C_], .res]) (by kernel_rfl) ?_
              refine RJ.end (by kernel_rfl) ?_
              refine PJ.next ?_
              refine K.seq (by kernel_rfl) ?_
              refine J.keep [6, 7, 8, 12, 14, 15, 16, 17] (L2 := [(6, .bool false), (7, .bool y1), (8, .ptr 0 0), (12, .ptr 1 0), (14, .str ([110, 105, 119, 116, 99, 101] : List UInt8)), (15, .int .i64 s325), (16, lsv (encI .u8) 1 y517.1), (17, .bool y517.2)]) (by kernel_rfl) ?_
              refine K.draw (by kernel_rfl) (by kernel_rfl) (by kernel_rfl) (H2 := [.box [lsv (encI .u8) 1 y10.1.I_, lsv (encI .u8) 1 y10.1.F_, .int .i64 y10.1.W_, .int .i64 y10.1.C_], .box [lsv (encI .u8) 1 y19.1.I_, lsv (encI .u8) 1 y19.1.F_, .int .i64 y19.1.W_, .int .i64 y19.1.C_], .res, .res]) (by kernel_rfl) (n := 3) (by kernel_rfl) ?_
              refine RJ.segD 3 (tr2 := [([2, 3], []), ([], []), ([], [])]) (L2 := [(95, .int .i64 s325), (94, .str ([110, 105, 119, 116, 99, 101] : List UInt8)), (93, .agg [lsv (encI .u8) 1 y19.1.I_, lsv (encI .u8) 1 y19.1.F_, .int .i64 y19.1.W_, .int .i64 y19.1.C_]), (6, .bool false), (7, .bool y1), (8, .ptr 0 0), (12, .ptr 1 0), (14, .str ([110, 105, 119, 116, 99, 101] : List UInt8)), (15, .int .i64 s325), (16, lsv (encI .u8) 1 y517.1), (17, .bool y517.2)]) (H2 := [.box [lsv (encI .u8) 1 y10.1.I_, lsv (encI .u8) 1 y10.1.F_, .int .i64 y10.1.W_, .int .i64 y10.1.C_], .box [lsv (encI .u8) 1 y19.1.I_, lsv (encI .u8) 1 y19.1.F_, .int .i64 y19.1.W_, .int .i64 y19.1.C_], .res, .res]) (by kernel_rfl) ?_
              obtain ⟨hm, h520⟩ := asrt h519
              refine RJ.rel (d := (some 96)) (ef := ⟨.int .u8 (((([110, 105, 119, 116, 99, 101] : List UInt8).getD (s325 : Int).toNat 0).toNat : Nat) : Int), [], []⟩) (ef' := ⟨.int .u8 (((([110, 105, 119, 116, 99, 101] : List UInt8).getD (s325 : Int).toNat 0).toNat : Nat) : Int), [], []⟩) (c := inR s325 ([110, 105, 119, 116, 99, 101] : List UInt8).length) (tr2 := [([2, 3], []), ([], []), ([], []), ([], [])]) (H2 := [.box [lsv (encI .u8) 1 y10.1.I_, lsv (encI .u8) 1 y10.1.F_, .int .i64 y10.1.W_, .int .i64 y10.1.C_], .box [lsv (encI .u8) 1 y19.1.I_, lsv (encI .u8) 1 y19.1.F_, .int .i64 y19.1.W_, .int .i64 y19.1.C_], .res, .res]) (by kernel_rfl) hm (fun hc => rfl) (by kernel_rfl) ?_
              obtain ⟨y521, hy522, h523⟩ := bindS h520
              refine RJ.call0 (d := (some 97)) (f := 18) (args := [.agg [lsv (encI .u8) 1 y19.1.I_, lsv (encI .u8) 1 y19.1.F_, .int .i64 y19.1.W_, .int .i64 y19.1.C_], .int .u8 ((((([110, 105, 119, 116, 99, 101] : List UInt8).getD (s325 : Int).toNat 0).toNat : Nat) : Int))]) (v := .tup [lsv (encI .u8) 1 y521.1, .bool y521.2]) (tr2 := [([2, 3], []), ([], []), ([], []), ([], []), ([], [6, 7])]) (by kernel_rfl) (by kernel_rfl) (.cons (Le.refl _) (.cons (Le.refl _) .nil)) (oper_Operand_ok hy522) (by kernel_rfl) ?_
              refine RJ.segD 5 (tr2 := [([2, 3], []), ([], []), ([], []), ([], []), ([], [6, 7]), ([], []), ([], []), ([], []), ([], []), ([], [])]) (L2 := [(19, .bool y521.2), (18, lsv (encI .u8) 1 y521.1), (99, .bool y521.2), (98, lsv (encI .u8) 1 y521.1), (92, .tup [lsv (encI .u8) 1 y521.1, .bool y521.2]), (97, .tup [lsv (encI .u8) 1 y521.1, .bool y521.2]), (96, .int .u8 ((((([110, 105, 119, 116, 99, 101] : List UInt8).getD (s325 : Int).toNat 0).toNat : Nat) : Int))), (95, .int .i64 s325), (94, .str ([110, 105, 119, 116, 99, 101] : List UInt8)), (93, .agg [lsv (encI .u8) 1 y19.1.I_, lsv (encI .u8) 1 y19.1.F_, .int .i64 y19.1.W_, .int .i64 y19.1.C_]), (6, .bool false), (7, .bool y1), (8, .ptr 0 0), (12, .ptr 1 0), (14, .str ([110, 105, 119, 116, 99, 101] : List UInt8)), (15, .int .i64 s325), (16, lsv (encI .u8) 1 y517.1), (17, .bool y517.2)]) (H2 := [.box [lsv (encI .u8) 1 y10.1.I_, lsv (encI .u8) 1 y10.1.F_, .int .i64 y10.1.W_, .int .i64 y10.1.C_], .box [lsv (encI .u8) 1 y19.1.I_, lsv (encI .u8) 1 y19.1.F_, .int .i64 y19.1.W_, .int .i64 y19.1.C_], .res, .res]) (by kernel_rfl) ?_
              refine RJ.end (by kernel_rfl) ?_
              refine PJ.next ?_
              obtain ⟨s530, hy532, h534⟩ := bindS h523
              refine K.cutN (by kernel_rfl) (fun (s530 : Bool) => ([(6, .bool false), (7, .bool y1), (8, .ptr 0 0), (12, .ptr 1 0), (14, .str ([110, 105, 119, 116, 99, 101] : List UInt8)), (15, .int .i64 s325), (108, .bool s530)], [.box [lsv (encI .u8) 1 y10.1.I_, lsv (encI .u8) 1 y10.1.F_, .int .i64 y10.1.W_, .int .i64 y10.1.C_], .box [lsv (encI .u8) 1 y19.1.I_, lsv (encI .u8) 1 y19.1.F_, .int .i64 y19.1.W_, .int .i64 y19.1.C_]])) s530 ?_ ?_
              · refine K.region (by kernel_rfl) ?_
                refine RJ.seg 4 [6, 7, 8, 12, 14, 15, 16, 18, 103] (L2 := [(6, .bool false), (7, .bool y1), (8, .ptr 0 0), (12, .ptr 1 0), (14, .str ([110, 105, 119, 116, 99, 101] : List UInt8)), (15, .int .i64 s325), (16, lsv (encI .u8) 1 y517.1), (18, lsv (encI .u8) 1 y521.1), (103, .bool (y517.2 != y521.2))]) (H2 := [.box [lsv (encI .u8) 1 y10.1.I_, lsv (encI .u8) 1 y10.1.F_, .int .i64 y10.1.W_, .int .i64 y10.1.C_], .box [lsv (encI .u8) 1 y19.1.I_, lsv (encI .u8) 1 y19.1.F_, .int .i64 y19.1.W_, .int .i64 y19.1.C_], .res, .res]) (by kernel_rfl) ?_
                refine RJ.caseB 103 (b := (y517.2 != y521.2)) (by kernel_rfl) (fun hb535 => ?_) (fun hb535 => ?_)
                · have h536 := condT hb535 hy532
                  refine RJ.seg 5 [6, 7, 8, 12, 14, 15, 108] (L2 := [(6, .bool false), (7, .bool y1), (8, .ptr 0 0), (12, .ptr 1 0), (14, .str ([110, 105, 119, 116, 99, 101] : List UInt8)), (15, .int .i64 s325), (108, .bool true)]) (H2 := [.box [lsv (encI .u8) 1 y10.1.I_, lsv (encI .u8) 1 y10.1.F_, .int .i64 y10.1.W_, .int .i64 y10.1.C_], .box [lsv (encI .u8) 1 y19.1.I_, lsv (encI .u8) 1 y19.1.F_, .int .i64 y19.1.W_, .int .i64 y19.1.C_], .res, .res]) (by kernel_rfl) ?_
                  refine RJ.end (by kernel_rfl) ?_
                  obtain rfl := Option.some.inj h536
                  refine PJ.wk (Wk.sel (L2 := [(6, .bool false), (7, .bool y1), (8, .ptr 0 0), (12, .ptr 1 0), (14, .str ([110, 105, 119, 116, 99, 101] : List UInt8)), (15, .int .i64 s325), (108, .bool true)]) (H2 := [.box [lsv (encI .u8) 1 y10.1.I_, lsv (encI .u8) 1 y10.1.F_, .int .i64 y10.1.W_, .int .i64 y10.1.C_], .box [lsv (encI .u8) 1 y19.1.I_, lsv (encI .u8) 1 y19.1.F_, .int .i64 y19.1.W_, .int .i64 y19.1.C_]]) 0 (by rw [hFH]; rfl) hFD [0, 1] (by kernel_rfl) (by kernel_rfl) (by decide) (by kernel_rfl) (by kernel_rfl) (by kernel_rfl) (by kernel_rfl)) ?_
                  exact PJ.cutN [6, 7, 8, 12, 14, 15, 108] (by kernel_rfl) (by kernel_rfl)
                · have h537 := condF hb535 hy532
                  refine RJ.seg 2 [6, 7, 8, 12, 14, 15, 103, 104, 105] (L2 := [(6, .bool false), (7, .bool y1), (8, .ptr 0 0), (12, .ptr 1 0), (14, .str ([110, 105, 119, 116, 99, 101] : List UInt8)), (15, .int .i64 s325), (103, .bool false), (104, lsv (encI .u8) 1 y517.1), (105, lsv (encI .u8) 1 y521.1)]) (H2 := [.box [lsv (encI .u8) 1 y10.1.I_, lsv (encI .u8) 1 y10.1.F_, .int .i64 y10.1.W_, .int .i64 y10.1.C_], .box [lsv (encI .u8) 1 y19.1.I_, lsv (encI .u8) 1 y19.1.F_, .int .i64 y19.1.W_, .int .i64 y19.1.C_], .res, .res]) (by kernel_rfl) ?_
                  obtain ⟨y538, hy539, h540⟩ := bindS h537
                  refine RJ.call0 (d := (some 106)) (f := 20) (args := [lsv (encI .u8) 1 y517.1, lsv (encI .u8) 1 y521.1]) (v := .bool y538) (tr2 := []) (by kernel_rfl) (by kernel_rfl) (.cons (Le.refl _) (.cons (Le.refl _) .nil)) (exergueref01_Row_ok hy539) (by kernel_rfl) ?_
                  refine RJ.seg 2 [6, 7, 8, 12, 14, 15, 108] (L2 := [(6, .bool false), (7, .bool y1), (8, .ptr 0 0), (12, .ptr 1 0), (14, .str ([110, 105, 119, 116, 99, 101] : List UInt8)), (15, .int .i64 s325), (108, .bool (!y538))]) (H2 := [.box [lsv (encI .u8) 1 y10.1.I_, lsv (encI .u8) 1 y10.1.F_, .int .i64 y10.1.W_, .int .i64 y10.1.C_], .box [lsv (encI .u8) 1 y19.1.I_, lsv (encI .u8) 1 y19.1.F_, .int .i64 y19.1.W_, .int .i64 y19.1.C_], .res, .res]) (by kernel_rfl) ?_
                  refine RJ.end (by kernel_rfl) ?_
                  obtain rfl := Option.some.inj h540
                  refine PJ.wk (Wk.sel (L2 := [(6, .bool false), (7, .bool y1), (8, .ptr 0 0), (12, .ptr 1 0), (14, .str ([110, 105, 119, 116, 99, 101] : List UInt8)), (15, .int .i64 s325), (108, .bool (!y538))]) (H2 := [.box [lsv (encI .u8) 1 y10.1.I_, lsv (encI .u8) 1 y10.1.F_, .int .i64 y10.1.W_, .int .i64 y10.1.C_], .box [lsv (encI .u8) 1 y19.1.I_, lsv (encI .u8) 1 y19.1.F_, .int .i64 y19.1.W_, .int .i64 y19.1.C_]]) 0 (by rw [hFH]; rfl) hFD [0, 1] (by kernel_rfl) (by kernel_rfl) (by decide) (by kernel_rfl) (by kernel_rfl) (by kernel_rfl) (by kernel_rfl)) ?_
                  exact PJ.cutN [6, 7, 8, 12, 14, 15, 108] (by kernel_rfl) (by kernel_rfl)
              · refine J.caseB 108 (b := s530) (by kernel_rfl) (fun hb541 => ?_) (fun hb541 => ?_)
                · have h542 := condT hb541 h534
                  refine K.condT (by kernel_rfl) ?_
                  refine K.seq (by kernel_rfl) ?_
                  refine K.region (by kernel_rfl) ?_
                  refine RJ.seg 1 [6, 7, 8, 12, 14, 15] (L2 := [(6, .bool false), (7, .bool y1), (8, .ptr 0 0), (12, .ptr 1 0), (14, .str ([110, 105, 119, 116, 99, 101] : List UInt8)), (15, .int .i64 s325)]) (H2 := [.box [lsv (encI .u8) 1 y10.1.I_, lsv (encI .u8) 1 y10.1.F_, .int .i64 y10.1.W_, .int .i64 y10.1.C_], .box [lsv (encI .u8) 1 y19.1.I_, lsv (encI .u8) 1 y19.1.F_, .int .i64 y19.1.W_, .int .i64 y19.1.C_]]) (by kernel_rfl) ?_
                  refine RJ.end (by kernel_rfl) ?_
                  refine PJ.next ?_
                  refine K.ret (by kernel_rfl) ?_
                  refine PJ.blockRet ?_
                  obtain rfl := Option.some.inj h542
                  have h544 := joinX_inr h514
                  refine PJ.cutXr (fun e => nomatch e) ?_
                  obtain rfl := Option.some.inj h544
                  refine PJ.loopOut (fun e => nomatch e) (fun he547 => ?_)
                  have h545 := congrArg some he547
                  refine PJ.blockRet ?_
                  obtain rfl := Option.some.inj h545
                  have h546 := joinX_inr h323
                  refine PJ.cutXr (fun e => nomatch e) ?_
                  obtain rfl := Option.some.inj h546
                  exact K.ret0 (.inr rfl) hFn hFH hFD (by kernel_rfl) (by kernel_rfl) (by kernel_rfl)
                · have h543 := condF hb541 h534
                  refine K.condF (by kernel_rfl) ?_
                  refine K.skip (by kernel_rfl) ?_
                  refine PJ.blockNormal ?_
                  obtain rfl := Option.some.inj h543
                  exact PJ.cutXl [6, 7, 8, 12, 14, 15] (by kernel_rfl) (by kernel_rfl)
            · subst hs
              have h515 := joinX_inl h514
              refine K.region (by kernel_rfl) ?_
              refine RJ.seg 3 [6, 7, 8, 12, 14, 15] (L2 := [(6, .bool false), (7, .bool y1), (8, .ptr 0 0), (12, .ptr 1 0), (14, .str ([110, 105, 119, 116, 99, 101] : List UInt8)), (15, .int .i64 (IntKind.wrap .i64 (s325 + 1)))]) (H2 := [.box [lsv (encI .u8) 1 y10.1.I_, lsv (encI .u8) 1 y10.1.F_, .int .i64 y10.1.W_, .int .i64 y10.1.C_], .box [lsv (encI .u8) 1 y19.1.I_, lsv (encI .u8) 1 y19.1.F_, .int .i64 y19.1.W_, .int .i64 y19.1.C_]]) (by kernel_rfl) ?_
              refine RJ.end (by kernel_rfl) ?_
              obtain rfl := Option.some.inj h515
              exact PJ.loopNext [6, 7, 8, 12, 14, 15] (by kernel_rfl) (by kernel_rfl)
          · have h478 := condF hb476 hs474
            refine K.condF (by kernel_rfl) ?_
            refine K.exit 0 (by kernel_rfl) ?_
            refine PJ.passExit ?_
            obtain rfl := Option.some.inj h478
            refine PJ.loopOut (fun e => nomatch e) (fun he549 => ?_)
            have h548 := congrArg some he549
            refine PJ.blockOut ?_
            obtain rfl := Option.some.inj h548
            exact PJ.cutXl [6, 7, 8, 12] (by kernel_rfl) (by kernel_rfl)
        · subst hs
          have h324 := joinX_inl h323
          refine K.seq (by kernel_rfl) ?_
          refine K.region (by kernel_rfl) ?_
          refine RJ.seg 1 [6, 7, 8, 12, 110] (L2 := [(6, .bool false), (7, .bool y1), (8, .ptr 0 0), (12, .ptr 1 0), (110, .agg [lsv (encI .u8) 1 y10.1.I_, lsv (encI .u8) 1 y10.1.F_, .int .i64 y10.1.W_, .int .i64 y10.1.C_])]) (H2 := [.box [lsv (encI .u8) 1 y10.1.I_, lsv (encI .u8) 1 y10.1.F_, .int .i64 y10.1.W_, .int .i64 y10.1.C_], .box [lsv (encI .u8) 1 y19.1.I_, lsv (encI .u8) 1 y19.1.F_, .int .i64 y19.1.W_, .int .i64 y19.1.C_]]) (by kernel_rfl) ?_
          obtain ⟨y550, hy551, h552⟩ := bindS h324
          refine RJ.call0 (d := (some 111)) (f := 18) (args := [.agg [lsv (encI .u8) 1 y10.1.I_, lsv (encI .u8) 1 y10.1.F_, .int .i64 y10.1.W_, .int .i64 y10.1.C_], .int .u8 102]) (v := .tup [lsv (encI .u8) 1 y550.1, .bool y550.2]) (tr2 := []) (by kernel_rfl) (by kernel_rfl) (.cons (Le.refl _) (.cons (Le.refl _) .nil)) (oper_Operand_ok hy551) (by kernel_rfl) ?_
          refine RJ.seg 5 [6, 7, 8, 12, 20] (L2 := [(6, .bool false), (7, .bool y1), (8, .ptr 0 0), (12, .ptr 1 0), (20, lsv (encI .u8) 1 y550.1)]) (H2 := [.box [lsv (encI .u8) 1 y10.1.I_, lsv (encI .u8) 1 y10.1.F_, .int .i64 y10.1.W_, .int .i64 y10.1.C_], .box [lsv (encI .u8) 1 y19.1.I_, lsv (encI .u8) 1 y19.1.F_, .int .i64 y19.1.W_, .int .i64 y19.1.C_]]) (by kernel_rfl) ?_
          refine RJ.end (by kernel_rfl) ?_
          refine PJ.next ?_
          refine K.seq (by kernel_rfl) ?_
          refine K.region (by kernel_rfl) ?_
          refine RJ.seg 1 [6, 7, 8, 12, 20, 115] (L2 := [(6, .bool false), (7, .bool y1), (8, .ptr 0 0), (12, .ptr 1 0), (20, lsv (encI .u8) 1 y550.1), (115, .agg [lsv (encI .u8) 1 y19.1.I_, lsv (encI .u8) 1 y19.1.F_, .int .i64 y19.1.W_, .int .i64 y19.1.C_])]) (H2 := [.box [lsv (encI .u8) 1 y10.1.I_, lsv (encI .u8) 1 y10.1.F_, .int .i64 y10.1.W_, .int .i64 y10.1.C_], .box [lsv (encI .u8) 1 y19.1.I_, lsv (encI .u8) 1 y19.1.F_, .int .i64 y19.1.W_, .int .i64 y19.1.C_]]) (by kernel_rfl) ?_
          obtain ⟨y553, hy554, h555⟩ := bindS h552
          refine RJ.call0 (d := (some 116)) (f := 18) (args := [.agg [lsv (encI .u8) 1 y19.1.I_, lsv (encI .u8) 1 y19.1.F_, .int .i64 y19.1.W_, .int .i64 y19.1.C_], .int .u8 102]) (v := .tup [lsv (encI .u8) 1 y553.1, .bool y553.2]) (tr2 := []) (by kernel_rfl) (by kernel_rfl) (.cons (Le.refl _) (.cons (Le.refl _) .nil)) (oper_Operand_ok hy554) (by kernel_rfl) ?_
          refine RJ.seg 5 [6, 7, 8, 12, 20, 22] (L2 := [(6, .bool false), (7, .bool y1), (8, .ptr 0 0), (12, .ptr 1 0), (20, lsv (encI .u8) 1 y550.1), (22, lsv (encI .u8) 1 y553.1)]) (H2 := [.box [lsv (encI .u8) 1 y10.1.I_, lsv (encI .u8) 1 y10.1.F_, .int .i64 y10.1.W_, .int .i64 y10.1.C_], .box [lsv (encI .u8) 1 y19.1.I_, lsv (encI .u8) 1 y19.1.F_, .int .i64 y19.1.W_, .int .i64 y19.1.C_]]) (by kernel_rfl) ?_
          refine RJ.end (by kernel_rfl) ?_
          refine PJ.next ?_
          obtain ⟨s578, hy580, h582⟩ := bindS h555
          refine K.cutN (by kernel_rfl) (fun (s578 : Bool) => ([(6, .bool s578)], [])) s578 ?_ ?_
          · refine K.region (by kernel_rfl) ?_
            refine RJ.seg 2 [6, 8, 12, 20, 22, 120] (L2 := [(6, .bool false), (8, .ptr 0 0), (12, .ptr 1 0), (20, lsv (encI .u8) 1 y550.1), (22, lsv (encI .u8) 1 y553.1), (120, .bool y1)]) (H2 := [.box [lsv (encI .u8) 1 y10.1.I_, lsv (encI .u8) 1 y10.1.F_, .int .i64 y10.1.W_, .int .i64 y10.1.C_], .box [lsv (encI .u8) 1 y19.1.I_, lsv (encI .u8) 1 y19.1.F_, .int .i64 y19.1.W_, .int .i64 y19.1.C_]]) (by kernel_rfl) ?_
            refine RJ.caseB 120 (b := y1) (by kernel_rfl) (fun hb583 => ?_) (fun hb583 => ?_)
            · have h584 := condT hb583 hy580
              refine RJ.seg 10 [6, 20, 22, 130] (L2 := [(6, .bool false), (20, lsv (encI .u8) 1 y550.1), (22, lsv (encI .u8) 1 y553.1), (130, .bool ((decide ((y19.1.F_.length : Int) = ((IntKind.wrap .i64 ((y10.1.F_.length : Int) + 1)))))))]) (H2 := [.box [lsv (encI .u8) 1 y10.1.I_, lsv (encI .u8) 1 y10.1.F_, .int .i64 y10.1.W_, .int .i64 y10.1.C_], .box [lsv (encI .u8) 1 y19.1.I_, lsv (encI .u8) 1 y19.1.F_, .int .i64 y19.1.W_, .int .i64 y19.1.C_]]) (by kernel_rfl) ?_
              refine RJ.caseB 130 (b := (decide ((y19.1.F_.length : Int) = ((IntKind.wrap .i64 ((y10.1.F_.length : Int) + 1)))))) (by kernel_rfl) (fun hb586 => ?_) (fun hb586 => ?_)
              · have h587 := condT hb586 h584
                refine RJ.seg 4 [6, 20, 22, 130, 134] (L2 := [(6, .bool false), (20, lsv (encI .u8) 1 y550.1), (22, lsv (encI .u8) 1 y553.1), (130, .bool true), (134, .bool ((decide ((y550.1.length : Int) = 0))))]) (H2 := [.box [lsv (encI .u8) 1 y10.1.I_, lsv (encI .u8) 1 y10.1.F_, .int .i64 y10.1.W_, .int .i64 y10.1.C_], .box [lsv (encI .u8) 1 y19.1.I_, lsv (encI .u8) 1 y19.1.F_, .int .i64 y19.1.W_, .int .i64 y19.1.C_]]) (by kernel_rfl) ?_
                refine RJ.caseB 134 (b := (decide ((y550.1.length : Int) = 0))) (by kernel_rfl) (fun hb589 => ?_) (fun hb589 => ?_)
                · have h590 := condT hb589 h587
                  refine RJ.seg 5 [6, 20, 22, 130, 139] (L2 := [(6, .bool false), (20, lsv (encI .u8) 1 y550.1), (22, lsv (encI .u8) 1 y553.1), (130, .bool true), (139, .bool ((decide ((y553.1.length : Int) = 0))))]) (H2 := [.box [lsv (encI .u8) 1 y10.1.I_, lsv (encI .u8) 1 y10.1.F_, .int .i64 y10.1.W_, .int .i64 y10.1.C_], .box [lsv (encI .u8) 1 y19.1.I_, lsv (encI .u8) 1 y19.1.F_, .int .i64 y19.1.W_, .int .i64 y19.1.C_]]) (by kernel_rfl) ?_
                  refine RJ.caseB 139 (b := (decide ((y553.1.length : Int) = 0))) (by kernel_rfl) (fun hb592 => ?_) (fun hb592 => ?_)
                  · have h593 := condT hb592 h590
                    refine RJ.seg 10 [6] (L2 := [(6, .bool true)]) (H2 := [.box [lsv (encI .u8) 1 y10.1.I_, lsv (encI .u8) 1 y10.1.F_, .int .i64 y10.1.W_, .int .i64 y10.1.C_], .box [lsv (encI .u8) 1 y19.1.I_, lsv (encI .u8) 1 y19.1.F_, .int .i64 y19.1.W_, .int .i64 y19.1.C_]]) (by kernel_rfl) ?_
                    refine RJ.end (by kernel_rfl) ?_
                    obtain rfl := Option.some.inj h593
                    refine PJ.wk (Wk.sel (L2 := [(6, .bool true)]) (H2 := []) 0 (by rw [hFH]; rfl) hFD [] (by kernel_rfl) (by kernel_rfl) (by decide) (by kernel_rfl) (by kernel_rfl) (by kernel_rfl) (by kernel_rfl)) ?_
                    exact PJ.cutN [6] (by kernel_rfl) (by kernel_rfl)
                  · have h594 := condF hb592 h590
                    refine RJ.seg 3 [6, 130, 139, 140, 141, 142] (L2 := [(6, .bool false), (130, .bool true), (139, .bool false), (140, lsv (encI .u8) 1 y553.1), (141, .nl), (142, lsv (encI .u8) 1 y550.1)]) (H2 := [.box [lsv (encI .u8) 1 y10.1.I_, lsv (encI .u8) 1 y10.1.F_, .int .i64 y10.1.W_, .int .i64 y10.1.C_], .box [lsv (encI .u8) 1 y19.1.I_, lsv (encI .u8) 1 y19.1.F_, .int .i64 y19.1.W_, .int .i64 y19.1.C_]]) (by kernel_rfl) ?_
                    obtain ⟨hm, h595⟩ := asrt h594
                    refine RJ.rel (d := (some 143)) (ef := ⟨.vc 2, [], [(2, .vec y550.1.length 1 5 (y550.1.flatMap (encI .u8)))]⟩) (ef' := ⟨.vc 2, [], [(2, .vec y550.1.length 1 5 (y550.1.flatMap (encI .u8)))]⟩) (c := room y550.1.length) (tr2 := []) (H2 := [.box [lsv (encI .u8) 1 y10.1.I_, lsv (encI .u8) 1 y10.1.F_, .int .i64 y10.1.W_, .int .i64 y10.1.C_], .box [lsv (encI .u8) 1 y19.1.I_, lsv (encI .u8) 1 y19.1.F_, .int .i64 y19.1.W_, .int .i64 y19.1.C_], vecL (encI .u8) 1 5 y550.1]) (by kernel_rfl) hm (fun hc => rfl) (by kernel_rfl) ?_
                    refine RJ.seg 1 [6, 130, 139, 140, 143, 144] (L2 := [(6, .bool false), (130, .bool true), (139, .bool false), (140, lsv (encI .u8) 1 y553.1), (143, .vc 2), (144, .vc 3)]) (H2 := [.box [lsv (encI .u8) 1 y10.1.I_, lsv (encI .u8) 1 y10.1.F_, .int .i64 y10.1.W_, .int .i64 y10.1.C_], .box [lsv (encI .u8) 1 y19.1.I_, lsv (encI .u8) 1 y19.1.F_, .int .i64 y19.1.W_, .int .i64 y19.1.C_], vecL (encI .u8) 1 5 y550.1, vecL (encI .u8) 1 5 ([0] : List Int)]) (by kernel_rfl) ?_
                    obtain ⟨hm, h596⟩ := asrt h595
                    refine RJ.rel (d := (some 145)) (ef := ⟨.vc 4, [2, 3], [(2, .gone), (4, .vec (y550.1.length + ([0] : List Int).length) 1 5 (y550.1.flatMap (encI .u8) ++ ([0] : List Int).flatMap (encI .u8)))]⟩) (ef' := ⟨.vc 4, [2, 3], [(2, .gone), (4, vecL (encI .u8) 1 5 (y550.1 ++ ([0] : List Int)))]⟩) (c := room (y550.1.length + ([0] : List Int).length)) (tr2 := []) (H2 := [.box [lsv (encI .u8) 1 y10.1.I_, lsv (encI .u8) 1 y10.1.F_, .int .i64 y10.1.W_, .int .i64 y10.1.C_], .box [lsv (encI .u8) 1 y19.1.I_, lsv (encI .u8) 1 y19.1.F_, .int .i64 y19.1.W_, .int .i64 y19.1.C_], .gone, vecL (encI .u8) 1 5 ([0] : List Int), vecL (encI .u8) 1 5 (y550.1 ++ ([0] : List Int))]) (by kernel_rfl) hm (fun hc => N.app) (by kernel_rfl) ?_
                    obtain ⟨y597, hy598, h599⟩ := bindS h596
                    refine RJ.callL (d := (some 146)) (f := 20) (args := [lsv (encI .u8) 1 y553.1, .vc 4]) (args0 := [lsv (encI .u8) 1 y553.1, .vc 0]) (args1 := [lsv (encI .u8) 1 y553.1, lsv (encI .u8) 1 (y550.1 ++ ([0] : List Int))]) (H0 := [vecL (encI .u8) 1 5 (y550.1 ++ ([0] : List Int))]) (v := .bool y597) (tr2 := []) [4] (by kernel_rfl) (by kernel_rfl) (by kernel_rfl) (by kernel_rfl) (by decide) (by kernel_rfl) (by kernel_rfl) (by kernel_rfl) (by kernel_rfl) (.cons (Le.refl _) (.cons (Le.refl _) .nil)) (exergueref01_Row_ok hy598) (by kernel_rfl) (by kernel_rfl) ?_
                    refine RJ.seg 3 [6] (L2 := [(6, .bool y597)]) (H2 := [.box [lsv (encI .u8) 1 y10.1.I_, lsv (encI .u8) 1 y10.1.F_, .int .i64 y10.1.W_, .int .i64 y10.1.C_], .box [lsv (encI .u8) 1 y19.1.I_, lsv (encI .u8) 1 y19.1.F_, .int .i64 y19.1.W_, .int .i64 y19.1.C_], .gone, vecL (encI .u8) 1 5 ([0] : List Int), vecL (encI .u8) 1 5 (y550.1 ++ ([0] : List Int))]) (by kernel_rfl) ?_
                    refine RJ.end (by kernel_rfl) ?_
                    obtain rfl := Option.some.inj h599
                    refine PJ.wk (Wk.sel (L2 := [(6, .bool y597)]) (H2 := []) 0 (by rw [hFH]; rfl) hFD [] (by kernel_rfl) (by kernel_rfl) (by decide) (by kernel_rfl) (by kernel_rfl) (by kernel_rfl) (by kernel_rfl)) ?_
                    exact PJ.cutN [6] (by kernel_rfl) (by kernel_rfl)
                · have h591 := condF hb589 h587
                  refine RJ.seg 8 [6, 130, 139, 140, 141, 142] (L2 := [(6, .bool false), (130, .bool true), (139, .bool false), (140, lsv (encI .u8) 1 y553.1), (141, .nl), (142, lsv (encI .u8) 1 y550.1)]) (H2 := [.box [lsv (encI .u8) 1 y10.1.I_, lsv (encI .u8) 1 y10.1.F_, .int .i64 y10.1.W_, .int .i64 y10.1.C_], .box [lsv (encI .u8) 1 y19.1.I_, lsv (encI .u8) 1 y19.1.F_, .int .i64 y19.1.W_, .int .i64 y19.1.C_]]) (by kernel_rfl) ?_
                  obtain ⟨hm, h600⟩ := asrt h591
                  refine RJ.rel (d := (some 143)) (ef := ⟨.vc 2, [], [(2, .vec y550.1.length 1 5 (y550.1.flatMap (encI .u8)))]⟩) (ef' := ⟨.vc 2, [], [(2, .vec y550.1.length 1 5 (y550.1.flatMap (encI .u8)))]⟩) (c := room y550.1.length) (tr2 := []) (H2 := [.box [lsv (encI .u8) 1 y10.1.I_, lsv (encI .u8) 1 y10.1.F_, .int .i64 y10.1.W_, .int .i64 y10.1.C_], .box [lsv (encI .u8) 1 y19.1.I_, lsv (encI .u8) 1 y19.1.F_, .int .i64 y19.1.W_, .int .i64 y19.1.C_], vecL (encI .u8) 1 5 y550.1]) (by kernel_rfl) hm (fun hc => rfl) (by kernel_rfl) ?_
                  refine RJ.seg 1 [6, 130, 139, 140, 143, 144] (L2 := [(6, .bool false), (130, .bool true), (139, .bool false), (140, lsv (encI .u8) 1 y553.1), (143, .vc 2), (144, .vc 3)]) (H2 := [.box [lsv (encI .u8) 1 y10.1.I_, lsv (encI .u8) 1 y10.1.F_, .int .i64 y10.1.W_, .int .i64 y10.1.C_], .box [lsv (encI .u8) 1 y19.1.I_, lsv (encI .u8) 1 y19.1.F_, .int .i64 y19.1.W_, .int .i64 y19.1.C_], vecL (encI .u8) 1 5 y550.1, vecL (encI .u8) 1 5 ([0] : List Int)]) (by kernel_rfl) ?_
                  obtain ⟨hm, h601⟩ := asrt h600
                  refine RJ.rel (d := (some 145)) (ef := ⟨.vc 4, [2, 3], [(2, .gone), (4, .vec (y550.1.length + ([0] : List Int).length) 1 5 (y550.1.flatMap (encI .u8) ++ ([0] : List Int).flatMap (encI .u8)))]⟩) (ef' := ⟨.vc 4, [2, 3], [(2, .gone), (4, vecL (encI .u8) 1 5 (y550.1 ++ ([0] : List Int)))]⟩) (c := room (y550.1.length + ([0] : List Int).length)) (tr2 := []) (H2 := [.box [lsv (encI .u8) 1 y10.1.I_, lsv (encI .u8) 1 y10.1.F_, .int .i64 y10.1.W_, .int .i64 y10.1.C_], .box [lsv (encI .u8) 1 y19.1.I_, lsv (encI .u8) 1 y19.1.F_, .int .i64 y19.1.W_, .int .i64 y19.1.C_], .gone, vecL (encI .u8) 1 5 ([0] : List Int), vecL (encI .u8) 1 5 (y550.1 ++ ([0] : List Int))]) (by kernel_rfl) hm (fun hc => N.app) (by kernel_rfl) ?_
                  obtain ⟨y602, hy603, h604⟩ := bindS h601
                  refine RJ.callL (d := (some 146)) (f := 20) (args := [lsv (encI .u8) 1 y553.1, .vc 4]) (args0 := [lsv (encI .u8) 1 y553.1, .vc 0]) (args1 := [lsv (encI .u8) 1 y553.1, lsv (encI .u8) 1 (y550.1 ++ ([0] : List Int))]) (H0 := [vecL (encI .u8) 1 5 (y550.1 ++ ([0] : List Int))]) (v := .bool y602) (tr2 := []) [4] (by kernel_rfl) (by kernel_rfl) (by kernel_rfl) (by kernel_rfl) (by decide) (by kernel_rfl) (by kernel_rfl) (by kernel_rfl) (by kernel_rfl) (.cons (Le.refl _) (.cons (Le.refl _) .nil)) (exergueref01_Row_ok hy603) (by kernel_rfl) (by kernel_rfl) ?_
                  refine RJ.seg 3 [6] (L2 := [(6, .bool y602)]) (H2 := [.box [lsv (encI .u8) 1 y10.1.I_, lsv (encI .u8) 1 y10.1.F_, .int .i64 y10.1.W_, .int .i64 y10.1.C_], .box [lsv (encI .u8) 1 y19.1.I_, lsv (encI .u8) 1 y19.1.F_, .int .i64 y19.1.W_, .int .i64 y19.1.C_], .gone, vecL (encI .u8) 1 5 ([0] : List Int), vecL (encI .u8) 1 5 (y550.1 ++ ([0] : List Int))]) (by kernel_rfl) ?_
                  refine RJ.end (by kernel_rfl) ?_
                  obtain rfl := Option.some.inj h604
                  refine PJ.wk (Wk.sel (L2 := [(6, .bool y602)]) (H2 := []) 0 (by rw [hFH]; rfl) hFD [] (by kernel_rfl) (by kernel_rfl) (by decide) (by kernel_rfl) (by kernel_rfl) (by kernel_rfl) (by kernel_rfl)) ?_
                  exact PJ.cutN [6] (by kernel_rfl) (by kernel_rfl)
              · have h588 := condF hb586 h584
                refine RJ.seg 19 [6] (L2 := [(6, .bool false)]) (H2 := [.box [lsv (encI .u8) 1 y10.1.I_, lsv (encI .u8) 1 y10.1.F_, .int .i64 y10.1.W_, .int .i64 y10.1.C_], .box [lsv (encI .u8) 1 y19.1.I_, lsv (encI .u8) 1 y19.1.F_, .int .i64 y19.1.W_, .int .i64 y19.1.C_]]) (by kernel_rfl) ?_
                refine RJ.end (by kernel_rfl) ?_
                obtain rfl := Option.some.inj h588
                refine PJ.wk (Wk.sel (L2 := [(6, .bool false)]) (H2 := []) 0 (by rw [hFH]; rfl) hFD [] (by kernel_rfl) (by kernel_rfl) (by decide) (by kernel_rfl) (by kernel_rfl) (by kernel_rfl) (by kernel_rfl)) ?_
                exact PJ.cutN [6] (by kernel_rfl) (by kernel_rfl)
            · have h585 := condF hb583 hy580
              refine RJ.seg 29 [6] (L2 := [(6, .bool false)]) (H2 := [.box [lsv (encI .u8) 1 y10.1.I_, lsv (encI .u8) 1 y10.1.F_, .int .i64 y10.1.W_, .int .i64 y10.1.C_], .box [lsv (encI .u8) 1 y19.1.I_, lsv (encI .u8) 1 y19.1.F_, .int .i64 y19.1.W_, .int .i64 y19.1.C_]]) (by kernel_rfl) ?_
              refine RJ.end (by kernel_rfl) ?_
              obtain rfl := Option.some.inj h585
              refine PJ.wk (Wk.sel (L2 := [(6, .bool false)]) (H2 := []) 0 (by rw [hFH]; rfl) hFD [] (by kernel_rfl) (by kernel_rfl) (by decide) (by kernel_rfl) (by kernel_rfl) (by kernel_rfl) (by kernel_rfl)) ?_
              exact PJ.cutN [6] (by kernel_rfl) (by kernel_rfl)
          · refine K.ret (by kernel_rfl) ?_
            obtain rfl := Option.some.inj h582
            exact K.ret0 (.inr rfl) hFn hFH hFD (by kernel_rfl) (by kernel_rfl) (by kernel_rfl)

structure St47 where
  L_ : List Int
  C_ : Int
  M_ : Int
  N_ : Int
  deriving Inhabited, DecidableEq
def encSt47 (x : St47) : List SV := [lsv (encI .u8) 1 x.L_, .int .u8 x.C_, .int .i64 x.M_, .int .u16 x.N_]
theorem encSt47_len (x : St47) : (encSt47 x).length = 4 := rfl

def exerguelaw07_OperRests (x0 : St47) : Option (Bool) :=
  (Option.bind exerguelaw07_shown fun y1 => (Option.bind (Option.bind (bif (decide ((x0.L_.length : Int) > 1000)) then (some true) else (Option.bind (exergueref07_Figures x0.L_) fun y71 => (bif (!y71) then (some true) else (bif (decide (x0.C_ > 9)) then (some true) else (bif (decide (x0.M_ < 1)) then (some true) else (some (decide (x0.M_ > 1000000000)))))))) fun (s63 : Bool) => (bif s63 then (some (.inr y1)) else (some (.inl ())))) (joinX fun (s43 : Unit) => (Option.bind (oper_Mod x0.L_ x0.M_) fun y87 => (bif room x0.L_.length then (bif room (x0.L_.length + ([x0.C_] : List Int).length) then (Option.bind (oper_Mod (x0.L_ ++ ([x0.C_] : List Int)) x0.M_) fun y92 => (Option.bind (oper_In x0.L_ (IntKind.wrap .i64 x0.N_) (IntKind.wrap .i64 x0.N_)) fun y95 => (Option.bind (bif y1 then (bif (decide (y87 ≥ 0)) then (bif (decide (y87 < x0.M_)) then (bif nz x0.M_ then (bif (decide (y92 = ((Int.tmod ((IntKind.wrap .i64 ((IntKind.wrap .i64 (y87 * 10)) + (IntKind.wrap .i64 x0.C_)))) x0.M_)))) then (bif (!y95) then (Option.bind (oper_In x0.L_ 0 (IntKind.wrap .i64 x0.N_)) fun y159 => (Option.bind (oper_In x0.L_ 0 ((IntKind.wrap .i64 ((IntKind.wrap .i64 x0.N_) - 1)))) fun y162 => (bif y162 then (some (y159 == true)) else (some (y159 == y95))))) else (Option.bind (oper_Mod x0.L_ 1000000) fun y168 => (bif (decide (y168 = (IntKind.wrap .i64 x0.N_))) then (Option.bind (oper_In x0.L_ 0 (IntKind.wrap .i64 x0.N_)) fun y174 => (Option.bind (oper_In x0.L_ 0 ((IntKind.wrap .i64 ((IntKind.wrap .i64 x0.N_) - 1)))) fun y177 => (bif y177 then (some (y174 == true)) else (some (y174 == y95))))) else (some false)))) else (some false)) else none) else (some false)) else (some false)) else (some false)) fun (s138 : Bool) => (some s138)))) else none) else none)))))
theorem exerguelaw07_OperRests_ok {x0 : St47} {r : Bool} (h : exerguelaw07_OperRests x0 = some r) : SC Try.prog 6 [.agg [lsv (encI .u8) 1 x0.L_, .int .u8 x0.C_, .int .i64 x0.M_, .int .u16 x0.N_]] [] (.bool r) [] := by
  refine K.fn (fn := Try.f6) (by kernel_rfl) (by kernel_rfl) (by kernel_rfl) (by kernel_rfl) (by kernel_rfl) (fun F hFn hFH hFD => ?_)
  unfold exerguelaw07_OperRests at h
  refine K.seq (by kernel_rfl) ?_
  refine K.region (by kernel_rfl) ?_
  refine RJ.seg 2 [1, 2] (L2 := [(1, .ptr 0 0), (2, .bool false)]) (H2 := [.box [lsv (encI .u8) 1 x0.L_, .int .u8 x0.C_, .int .i64 x0.M_, .int .u16 x0.N_]]) (by kernel_rfl) ?_
  refine RJ.end (by kernel_rfl) ?_
  refine PJ.next ?_
  refine K.seq (by kernel_rfl) ?_
  refine K.region (by kernel_rfl) ?_
  refine RJ.seg 3 [1, 2, 3] (L2 := [(1, .ptr 0 0), (2, .bool false), (3, lsv (encI .u8) 1 x0.L_)]) (H2 := [.box [lsv (encI .u8) 1 x0.L_, .int .u8 x0.C_, .int .i64 x0.M_, .int .u16 x0.N_]]) (by kernel_rfl) ?_
  refine RJ.end (by kernel_rfl) ?_
  refine PJ.next ?_
  refine K.seq (by kernel_rfl) ?_
  refine K.region (by kernel_rfl) ?_
  refine RJ.seg 3 [1, 2, 3, 4] (L2 := [(1, .ptr 0 0), (2, .bool false), (3, lsv (encI .u8) 1 x0.L_), (4, .int .u8 x0.C_)]) (H2 := [.box [lsv (encI .u8) 1 x0.L_, .int .u8 x0.C_, .int .i64 x0.M_, .int .u16 x0.N_]]) (by kernel_rfl) ?_
  refine RJ.end (by kernel_rfl) ?_
  refine PJ.next ?_
  refine K.seq (by kernel_rfl) ?_
  refine K.region (by kernel_rfl) ?_
  refine RJ.seg 3 [1, 2, 3, 4, 5] (L2 := [(1, .ptr 0 0), (2, .bool false), (3, lsv (encI .u8) 1 x0.L_), (4, .int .u8 x0.C_), (5, .int .i64 x0.M_)]) (H2 := [.box [lsv (encI .u8) 1 x0.L_, .int .u8 x0.C_, .int .i64 x0.M_, .int .u16 x0.N_]]) (by kernel_rfl) ?_
  refine RJ.end (by kernel_rfl) ?_
  refine PJ.next ?_
  refine K.seq (by kernel_rfl) ?_
  refine K.region (by kernel_rfl) ?_
  refine RJ.seg 3 [2, 3, 4, 5, 6] (L2 := [(2, .bool false), (3, lsv (encI .u8) 1 x0.L_), (4, .int .u8 x0.C_), (5, .int .i64 x0.M_), (6, .int .u16 x0.N_)]) (H2 := [.box [lsv (encI .u8) 1 x0.L_, .int .u8 x0.C_, .int .i64 x0.M_, .int .u16 x0.N_]]) (by kernel_rfl) ?_
  refine RJ.end (by kernel_rfl) ?_
  refine PJ.next ?_
  refine K.seq (by kernel_rfl) ?_
  refine K.region (by kernel_rfl) ?_
  obtain ⟨y1, hy2, h3⟩ := bindS h
  refine RJ.call0 (d := (some 20)) (f := 10) (args := []) (v := .bool y1) (tr2 := []) (by kernel_rfl) (by kernel_rfl) .nil (exerguelaw07_shown_ok hy2) (by kernel_rfl) ?_
  refine RJ.seg 1 [2, 3, 4, 5, 6, 7] (L2 := [(2, .bool false), (3, lsv (encI .u8) 1 x0.L_), (4, .int .u8 x0.C_), (5, .int .i64 x0.M_), (6, .int .u16 x0.N_), (7, .bool y1)]) (H2 := [.box [lsv (encI .u8) 1 x0.L_, .int .u8 x0.C_, .int .i64 x0.M_, .int .u16 x0.N_]]) (by kernel_rfl) ?_
  refine RJ.end (by kernel_rfl) ?_
  refine PJ.next ?_
  obtain ⟨y44, hy45, h46⟩ := bindS h3
  refine K.cutX (by kernel_rfl) (fun (s43 : Unit) => ([(2, .bool false), (3, lsv (encI .u8) 1 x0.L_), (4, .int .u8 x0.C_), (5, .int .i64 x0.M_), (6, .int .u16 x0.N_), (7, .bool y1)], [])) y44 ?_ (fun s43 hs => ?_)
  · obtain ⟨s63, hy65, h67⟩ := bindS hy45
    refine K.cutN (by kernel_rfl) (fun (s63 : Bool) => ([(2, .bool false), (3, lsv (encI .u8) 1 x0.L_), (4, .int .u8 x0.C_), (5, .int .i64 x0.M_), (6, .int .u16 x0.N_), (7, .bool y1), (40, .bool s63)], [])) s63 ?_ ?_
    · refine K.region (by kernel_rfl) ?_
      refine RJ.seg 4 [2, 3, 4, 5, 6, 7, 24] (L2 := [(2, .bool false), (3, lsv (encI .u8) 1 x0.L_), (4, .int .u8 x0.C_), (5, .int .i64 x0.M_), (6, .int .u16 x0.N_), (7, .bool y1), (24, .bool ((decide ((x0.L_.length : Int) > 1000))))]) (H2 := [.box [lsv (encI .u8) 1 x0.L_, .int .u8 x0.C_, .int .i64 x0.M_, .int .u16 x0.N_]]) (by kernel_rfl) ?_
      refine RJ.caseB 24 (b := (decide ((x0.L_.length : Int) > 1000))) (by kernel_rfl) (fun hb68 => ?_) (fun hb68 => ?_)
      · have h69 := condT hb68 hy65
        refine RJ.seg 16 [2, 3, 4, 5, 6, 7, 40] (L2 := [(2, .bool false), (3, lsv (encI .u8) 1 x0.L_), (4, .int .u8 x0.C_), (5, .int .i64 x0.M_), (6, .int .u16 x0.N_), (7, .bool y1), (40, .bool true)]) (H2 := [.box [lsv (encI .u8) 1 x0.L_, .int .u8 x0.C_, .int .i64 x0.M_, .int .u16 x0.N_]]) (by kernel_rfl) ?_
        refine RJ.end (by kernel_rfl) ?_
        obtain rfl := Option.some.inj h69
        refine PJ.wk (Wk.sel (L2 := [(2, .bool false), (3, lsv (encI .u8) 1 x0.L_), (4, .int .u8 x0.C_), (5, .int .i64 x0.M_), (6, .int .u16 x0.N_), (7, .bool y1), (40, .bool true)]) (H2 := []) 0 (by rw [hFH]; rfl) hFD [] (by kernel_rfl) (by kernel_rfl) (by decide) (by kernel_rfl) (by kernel_rfl) (by kernel_rfl) (by kernel_rfl)) ?_
        exact PJ.cutN [2, 3, 4, 5, 6, 7, 40] (by kernel_rfl) (by kernel_rfl)
      · have h70 := condF hb68 hy65
        refine RJ.seg 1 [2, 3, 4, 5, 6, 7, 24, 25] (L2 := [(2, .bool false), (3, lsv (encI .u8) 1 x0.L_), (4, .int .u8 x0.C_), (5, .int .i64 x0.M_), (6, .int .u16 x0.N_), (7, .bool y1), (24, .bool false), (25, lsv (encI .u8) 1 x0.L_)]) (H2 := [.box [lsv (encI .u8) 1 x0.L_, .int .u8 x0.C_, .int .i64 x0.M_, .int .u16 x0.N_]]) (by kernel_rfl) ?_
        obtain ⟨y71, hy72, h73⟩ := bindS h70
        refine RJ.call0 (d := (some 26)) (f := 21) (args := [lsv (encI .u8) 1 x0.L_]) (v := .bool y71) (tr2 := []) (by kernel_rfl) (by kernel_rfl) (.cons (Le.refl _) .nil) (exergueref07_Figures_ok hy72) (by kernel_rfl) ?_
        refine RJ.seg 3 [2, 3, 4, 5, 6, 7, 29] (L2 := [(2, .bool false), (3, lsv (encI .u8) 1 x0.L_), (4, .int .u8 x0.C_), (5, .int .i64 x0.M_), (6, .int .u16 x0.N_), (7, .bool y1), (29, .bool (!y71))]) (H2 := [.box [lsv (encI .u8) 1 x0.L_, .int .u8 x0.C_, .int .i64 x0.M_, .int .u16 x0.N_]]) (by kernel_rfl) ?_
        refine RJ.caseB 29 (b := (!y71)) (by kernel_rfl) (fun hb74 => ?_) (fun hb74 => ?_)
        · have h75 := condT hb74 h73
          refine RJ.seg 11 [2, 3, 4, 5, 6, 7, 40] (L2 := [(2, .bool false), (3, lsv (encI .u8) 1 x0.L_), (4, .int .u8 x0.C_), (5, .int .i64 x0.M_), (6, .int .u16 x0.N_), (7, .bool y1), (40, .bool true)]) (H2 := [.box [lsv (encI .u8) 1 x0.L_, .int .u8 x0.C_, .int .i64 x0.M_, .int .u16 x0.N_]]) (by kernel_rfl) ?_
          refine RJ.end (by kernel_rfl) ?_
          obtain rfl := Option.some.inj h75
          refine PJ.wk (Wk.sel (L2 := [(2, .bool false), (3, lsv (encI .u8) 1 x0.L_), (4, .int .u8 x0.C_), (5, .int .i64 x0.M_), (6, .int .u16 x0.N_), (7, .bool y1), (40, .bool true)]) (H2 := []) 0 (by rw [hFH]; rfl) hFD [] (by kernel_rfl) (by kernel_rfl) (by decide) (by kernel_rfl) (by kernel_rfl) (by kernel_rfl) (by kernel_rfl)) ?_
          exact PJ.cutN [2, 3, 4, 5, 6, 7, 40] (by kernel_rfl) (by kernel_rfl)
        · have h76 := condF hb74 h73
          refine RJ.seg 4 [2, 3, 4, 5, 6, 7, 33] (L2 := [(2, .bool false), (3, lsv (encI .u8) 1 x0.L_), (4, .int .u8 x0.C_), (5, .int .i64 x0.M_), (6, .int .u16 x0.N_), (7, .bool y1), (33, .bool (decide (x0.C_ > 9)))]) (H2 := [.box [lsv (encI .u8) 1 x0.L_, .int .u8 x0.C_, .int .i64 x0.M_, .int .u16 x0.N_]]) (by kernel_rfl) ?_
          refine RJ.caseB 33 (b := (decide (x0.C_ > 9))) (by kernel_rfl) (fun hb77 => ?_) (fun hb77 => ?_)
          · have h78 := condT hb77 h76
            refine RJ.seg 7 [2, 3, 4, 5, 6, 7, 40] (L2 := [(2, .bool false), (3, lsv (encI .u8) 1 x0.L_), (4, .int .u8 x0.C_), (5, .int .i64 x0.M_), (6, .int .u16 x0.N_), (7, .bool y1), (40, .bool true)]) (H2 := [.box [lsv (encI .u8) 1 x0.L_, .int .u8 x0.C_, .int .i64 x0.M_, .int .u16 x0.N_]]) (by kernel_rfl) ?_
            refine RJ.end (by kernel_rfl) ?_
            obtain rfl := Option.some.inj h78
            refine PJ.wk (Wk.sel (L2 := [(2, .bool false), (3, lsv (encI .u8) 1 x0.L_), (4, .int .u8 x0.C_), (5, .int .i64 x0.M_), (6, .int .u16 x0.N_), (7, .bool y1), (40, .bool true)]) (H2 := []) 0 (by rw [hFH]; rfl) hFD [] (by kernel_rfl) (by kernel_rfl) (by decide) (by kernel_rfl) (by kernel_rfl) (by kernel_rfl) (by kernel_rfl)) ?_
            exact PJ.cutN [2, 3, 4, 5, 6, 7, 40] (by kernel_rfl) (by kernel_rfl)
          · have h79 := condF hb77 h76
            refine RJ.seg 4 [2, 3, 4, 5, 6, 7, 37] (L2 := [(2, .bool false), (3, lsv (encI .u8) 1 x0.L_), (4, .int .u8 x0.C_), (5, .int .i64 x0.M_), (6, .int .u16 x0.N_), (7, .bool y1), (37, .bool (decide (x0.M_ < 1)))]) (H2 := [.box [lsv (encI .u8) 1 x0.L_, .int .u8 x0.C_, .int .i64 x0.M_, .int .u16 x0.N_]]) (by kernel_rfl) ?_
            refine RJ.caseB 37 (b := (decide (x0.M_ < 1))) (by kernel_rfl) (fun hb80 => ?_) (fun hb80 => ?_)
            · have h81 := condT hb80 h79
              refine RJ.seg 3 [2, 3, 4, 5, 6, 7, 40] (L2 := [(2, .bool false), (3, lsv (encI .u8) 1 x0.L_), (4, .int .u8 x0.C_), (5, .int .i64 x0.M_), (6, .int .u16 x0.N_), (7, .bool y1), (40, .bool true)]) (H2 := [.box [lsv (encI .u8) 1 x0.L_, .int .u8 x0.C_, .int .i64 x0.M_, .int .u16 x0.N_]]) (by kernel_rfl) ?_
              refine RJ.end (by kernel_rfl) ?_
              obtain rfl := Option.some.inj h81
              refine PJ.wk (Wk.sel (L2 := [(2, .bool false), (3, lsv (encI .u8) 1 x0.L_), (4, .int .u8 x0.C_), (5, .int .i64 x0.M_), (6, .int .u16 x0.N_), (7, .bool y1), (40, .bool true)]) (H2 := []) 0 (by rw [hFH]; rfl) hFD [] (by kernel_rfl) (by kernel_rfl) (by decide) (by kernel_rfl) (by kernel_rfl) (by kernel_rfl) (by kernel_rfl)) ?_
              exact PJ.cutN [2, 3, 4, 5, 6, 7, 40] (by kernel_rfl) (by kernel_rfl)
            · have h82 := condF hb80 h79
              refine RJ.seg 3 [2, 3, 4, 5, 6, 7, 40] (L2 := [(2, .bool false), (3, lsv (encI .u8) 1 x0.L_), (4, .int .u8 x0.C_), (5, .int .i64 x0.M_), (6, .int .u16 x0.N_), (7, .bool y1), (40, .bool (decide (x0.M_ > 1000000000)))]) (H2 := [.box [lsv (encI .u8) 1 x0.L_, .int .u8 x0.C_, .int .i64 x0.M_, .int .u16 x0.N_]]) (by kernel_rfl) ?_
              refine RJ.end (by kernel_rfl) ?_
              obtain rfl := Option.some.inj h82
              refine PJ.wk (Wk.sel (L2 := [(2, .bool false), (3, lsv (encI .u8) 1 x0.L_), (4, .int .u8 x0.C_), (5, .int .i64 x0.M_), (6, .int .u16 x0.N_), (7, .bool y1), (40, .bool (decide (x0.M_ > 1000000000)))]) (H2 := []) 0 (by rw [hFH]; rfl) hFD [] (by kernel_rfl) (by kernel_rfl) (by decide) (by kernel_rfl) (by kernel_rfl) (by kernel_rfl) (by kernel_rfl)) ?_
              exact PJ.cutN [2, 3, 4, 5, 6, 7, 40] (by kernel_rfl) (by kernel_rfl)
    · refine J.caseB 40 (b := s63) (by kernel_rfl) (fun hb83 => ?_) (fun hb83 => ?_)
      · have h84 := condT hb83 h67
        refine K.condT (by kernel_rfl) ?_
        refine K.seq (by kernel_rfl) ?_
        refine K.region (by kernel_rfl) ?_
        refine RJ.seg 2 [2, 3, 4, 5, 6, 7] (L2 := [(2, .bool y1), (3, lsv (encI .u8) 1 x0.L_), (4, .int .u8 x0.C_), (5, .int .i64 x0.M_), (6, .int .u16 x0.N_), (7, .bool y1)]) (H2 := []) (by kernel_rfl) ?_
        refine RJ.end (by kernel_rfl) ?_
        refine PJ.next ?_
        refine K.ret (by kernel_rfl) ?_
        obtain rfl := Option.some.inj h84
        have h86 := joinX_inr h46
        refine PJ.cutXr (fun e => nomatch e) ?_
        obtain rfl := Option.some.inj h86
        exact K.ret0 (.inr rfl) hFn hFH hFD (by kernel_rfl) (by kernel_rfl) (by kernel_rfl)
      · have h85 := condF hb83 h67
        refine K.condF (by kernel_rfl) ?_
        refine K.skip (by kernel_rfl) ?_
        obtain rfl := Option.some.inj h85
        exact PJ.cutXl [2, 3, 4, 5, 6, 7] (by kernel_rfl) (by kernel_rfl)
  · subst hs
    have h47 := joinX_inl h46
    refine K.seq (by kernel_rfl) ?_
    refine K.region (by kernel_rfl) ?_
    refine RJ.seg 2 [2, 3, 4, 5, 6, 7, 42, 43] (L2 := [(2, .bool false), (3, lsv (encI .u8) 1 x0.L_), (4, .int .u8 x0.C_), (5, .int .i64 x0.M_), (6, .int .u16 x0.N_), (7, .bool y1), (42, lsv (encI .u8) 1 x0.L_), (43, .int .i64 x0.M_)]) (H2 := []) (by kernel_rfl) ?_
    obtain ⟨y87, hy88, h89⟩ := bindS h47
    refine RJ.call0 (d := (some 44)) (f := 22) (args := [lsv (encI .u8) 1 x0.L_, .int .i64 x0.M_]) (v := .int .i64 y87) (tr2 := []) (by kernel_rfl) (by kernel_rfl) (.cons (Le.refl _) (.cons (Le.refl _) .nil)) (oper_Mod_ok hy88) (by kernel_rfl) ?_
    refine RJ.seg 1 [2, 3, 4, 5, 6, 7, 8] (L2 := [(2, .bool false), (3, lsv (encI .u8) 1 x0.L_), (4, .int .u8 x0.C_), (5, .int .i64 x0.M_), (6, .int .u16 x0.N_), (7, .bool y1), (8, .int .i64 y87)]) (H2 := []) (by kernel_rfl) ?_
    refine RJ.end (by kernel_rfl) ?_
    refine PJ.next ?_
    refine K.seq (by kernel_rfl) ?_
    refine K.region (by kernel_rfl) ?_
    refine RJ.seg 2 [2, 3, 4, 5, 6, 7, 8, 45, 46] (L2 := [(2, .bool false), (3, lsv (encI .u8) 1 x0.L_), (4, .int .u8 x0.C_), (5, .int .i64 x0.M_), (6, .int .u16 x0.N_), (7, .bool y1), (8, .int .i64 y87), (45, .nl), (46, lsv (encI .u8) 1 x0.L_)]) (H2 := []) (by kernel_rfl) ?_
    obtain ⟨hm, h90⟩ := asrt h89
    refine RJ.rel (d := (some 47)) (ef := ⟨.vc 0, [], [(0, .vec x0.L_.length 1 5 (x0.L_.flatMap (encI .u8)))]⟩) (ef' := ⟨.vc 0, [], [(0, .vec x0.L_.length 1 5 (x0.L_.flatMap (encI .u8)))]⟩) (c := room x0.L_.length) (tr2 := []) (H2 := [vecL (encI .u8) 1 5 x0.L_]) (by kernel_rfl) hm (fun hc => rfl) (by kernel_rfl) ?_
    refine RJ.seg 2 [2, 3, 4, 5, 6, 7, 8, 47, 49] (L2 := [(2, .bool false), (3, lsv (encI .u8) 1 x0.L_), (4, .int .u8 x0.C_), (5, .int .i64 x0.M_), (6, .int .u16 x0.N_), (7, .bool y1), (8, .int .i64 y87), (47, .vc 0), (49, .vc 1)]) (H2 := [vecL (encI .u8) 1 5 x0.L_, vecL (encI .u8) 1 5 ([x0.C_] : List Int)]) (by kernel_rfl) ?_
    obtain ⟨hm, h91⟩ := asrt h90
    refine RJ.rel (d := (some 50)) (ef := ⟨.vc 2, [0, 1], [(0, .gone), (2, .vec (x0.L_.length + ([x0.C_] : List Int).length) 1 5 (x0.L_.flatMap (encI .u8) ++ ([x0.C_] : List Int).flatMap (encI .u8)))]⟩) (ef' := ⟨.vc 2, [0, 1], [(0, .gone), (2, vecL (encI .u8) 1 5 (x0.L_ ++ ([x0.C_] : List Int)))]⟩) (c := room (x0.L_.length + ([x0.C_] : List Int).length)) (tr2 := []) (H2 := [.gone, vecL (encI .u8) 1 5 ([x0.C_] : List Int), vecL (encI .u8) 1 5 (x0.L_ ++ ([x0.C_] : List Int))]) (by kernel_rfl) hm (fun hc => N.app) (by kernel_rfl) ?_
    refine RJ.seg 1 [2, 3, 4, 5, 6, 7, 8, 50, 51] (L2 := [(2, .bool false), (3, lsv (encI .u8) 1 x0.L_), (4, .int .u8 x0.C_), (5, .int .i64 x0.M_), (6, .int .u16 x0.N_), (7, .bool y1), (8, .int .i64 y87), (50, .vc 2), (51, .int .i64 x0.M_)]) (H2 := [.gone, vecL (encI .u8) 1 5 ([x0.C_] : List Int), vecL (encI .u8) 1 5 (x0.L_ ++ ([x0.C_] : List Int))]) (by kernel_rfl) ?_
    obtain ⟨y92, hy93, h94⟩ := bindS h91
    refine RJ.callL (d := (some 52)) (f := 22) (args := [.vc 2, .int .i64 x0.M_]) (args0 := [.vc 0, .int .i64 x0.M_]) (args1 := [lsv (encI .u8) 1 (x0.L_ ++ ([x0.C_] : List Int)), .int .i64 x0.M_]) (H0 := [vecL (encI .u8) 1 5 (x0.L_ ++ ([x0.C_] : List Int))]) (v := .int .i64 y92) (tr2 := []) [2] (by kernel_rfl) (by kernel_rfl) (by kernel_rfl) (by kernel_rfl) (by decide) (by kernel_rfl) (by kernel_rfl) (by kernel_rfl) (by kernel_rfl) (.cons (Le.refl _) (.cons (Le.refl _) .nil)) (oper_Mod_ok hy93) (by kernel_rfl) (by kernel_rfl) ?_
    refine RJ.seg 1 [2, 3, 4, 5, 6, 7, 8, 9] (L2 := [(2, .bool false), (3, lsv (encI .u8) 1 x0.L_), (4, .int .u8 x0.C_), (5, .int .i64 x0.M_), (6, .int .u16 x0.N_), (7, .bool y1), (8, .int .i64 y87), (9, .int .i64 y92)]) (H2 := [.gone, vecL (encI .u8) 1 5 ([x0.C_] : List Int), vecL (encI .u8) 1 5 (x0.L_ ++ ([x0.C_] : List Int))]) (by kernel_rfl) ?_
    refine RJ.end (by kernel_rfl) ?_
    refine PJ.next ?_
    refine K.seq (by kernel_rfl) ?_
    refine K.region (by kernel_rfl) ?_
    refine RJ.seg 3 [2, 3, 4, 5, 7, 8, 9, 10] (L2 := [(2, .bool false), (3, lsv (encI .u8) 1 x0.L_), (4, .int .u8 x0.C_), (5, .int .i64 x0.M_), (7, .bool y1), (8, .int .i64 y87), (9, .int .i64 y92), (10, .int .i64 (IntKind.wrap .i64 x0.N_))]) (H2 := [.gone, vecL (encI .u8) 1 5 ([x0.C_] : List Int), vecL (encI .u8) 1 5 (x0.L_ ++ ([x0.C_] : List Int))]) (by kernel_rfl) ?_
    refine RJ.end (by kernel_rfl) ?_
    refine PJ.next ?_
    refine K.seq (by kernel_rfl) ?_
    refine K.region (by kernel_rfl) ?_
    refine RJ.seg 3 [2, 3, 4, 5, 7, 8, 9, 10, 55, 56, 57] (L2 := [(2, .bool false), (3, lsv (encI .u8) 1 x0.L_), (4, .int .u8 x0.C_), (5, .int .i64 x0.M_), (7, .bool y1), (8, .int .i64 y87), (9, .int .i64 y92), (10, .int .i64 (IntKind.wrap .i64 x0.N_)), (55, lsv (encI .u8) 1 x0.L_), (56, .int .i64 (IntKind.wrap .i64 x0.N_)), (57, .int .i64 (IntKind.wrap .i64 x0.N_))]) (H2 := [.gone, vecL (encI .u8) 1 5 ([x0.C_] : List Int), vecL (encI .u8) 1 5 (x0.L_ ++ ([x0.C_] : List Int))]) (by kernel_rfl) ?_
    obtain ⟨y95, hy96, h97⟩ := bindS h94
    refine RJ.call0 (d := (some 58)) (f := 24) (args := [lsv (encI .u8) 1 x0.L_, .int .i64 (IntKind.wrap .i64 x0.N_), .int .i64 (IntKind.wrap .i64 x0.N_)]) (v := .bool y95) (tr2 := []) (by kernel_rfl) (by kernel_rfl) (.cons (Le.refl _) (.cons (Le.refl _) (.cons (Le.refl _) .nil))) (oper_In_ok hy96) (by kernel_rfl) ?_
    refine RJ.seg 1 [2, 3, 4, 5, 7, 8, 9, 10, 11] (L2 := [(2, .bool false), (3, lsv (encI .u8) 1 x0.L_), (4, .int .u8 x0.C_), (5, .int .i64 x0.M_), (7, .bool y1), (8, .int .i64 y87), (9, .int .i64 y92), (10, .int .i64 (IntKind.wrap .i64 x0.N_)), (11, .bool y95)]) (H2 := [.gone, vecL (encI .u8) 1 5 ([x0.C_] : List Int), vecL (encI .u8) 1 5 (x0.L_ ++ ([x0.C_] : List Int))]) (by kernel_rfl) ?_
    refine RJ.end (by kernel_rfl) ?_
    refine PJ.next ?_
    obtain ⟨s138, hy140, h142⟩ := bindS h97
    refine K.cutN (by kernel_rfl) (fun (s138 : Bool) => ([(2, .bool s138)], [])) s138 ?_ ?_
    · refine K.region (by kernel_rfl) ?_
      refine RJ.seg 2 [2, 3, 4, 5, 8, 9, 10, 11, 60] (L2 := [(2, .bool false), (3, lsv (encI .u8) 1 x0.L_), (4, .int .u8 x0.C_), (5, .int .i64 x0.M_), (8, .int .i64 y87), (9, .int .i64 y92), (10, .int .i64 (IntKind.wrap .i64 x0.N_)), (11, .bool y95), (60, .bool y1)]) (H2 := [.gone, vecL (encI .u8) 1 5 ([x0.C_] : List Int), vecL (encI .u8) 1 5 (x0.L_ ++ ([x0.C_] : List Int))]) (by kernel_rfl) ?_
      refine RJ.caseB 60 (b := y1) (by kernel_rfl) (fun hb143 => ?_) (fun hb143 => ?_)
      · have h144 := condT hb143 hy140
        refine RJ.seg 4 [2, 3, 4, 5, 8, 9, 10, 11, 64] (L2 := [(2, .bool false), (3, lsv (encI .u8) 1 x0.L_), (4, .int .u8 x0.C_), (5, .int .i64 x0.M_), (8, .int .i64 y87), (9, .int .i64 y92), (10, .int .i64 (IntKind.wrap .i64 x0.N_)), (11, .bool y95), (64, .bool (decide (y87 ≥ 0)))]) (H2 := [.gone, vecL (encI .u8) 1 5 ([x0.C_] : List Int), vecL (encI .u8) 1 5 (x0.L_ ++ ([x0.C_] : List Int))]) (by kernel_rfl) ?_
        refine RJ.caseB 64 (b := (decide (y87 ≥ 0))) (by kernel_rfl) (fun hb146 => ?_) (fun hb146 => ?_)
        · have h147 := condT hb146 h144
          refine RJ.seg 5 [2, 3, 4, 5, 8, 9, 10, 11, 69] (L2 := [(2, .bool false), (3, lsv (encI .u8) 1 x0.L_), (4, .int .u8 x0.C_), (5, .int .i64 x0.M_), (8, .int .i64 y87), (9, .int .i64 y92), (10, .int .i64 (IntKind.wrap .i64 x0.N_)), (11, .bool y95), (69, .bool (decide (y87 < x0.M_)))]) (H2 := [.gone, vecL (encI .u8) 1 5 ([x0.C_] : List Int), vecL (encI .u8) 1 5 (x0.L_ ++ ([x0.C_] : List Int))]) (by kernel_rfl) ?_
          refine RJ.caseB 69 (b := (decide (y87 < x0.M_))) (by kernel_rfl) (fun hb149 => ?_) (fun hb149 => ?_)
          · have h150 := condT hb149 h147
            refine RJ.seg 7 [2, 3, 10, 11, 69, 70, 75, 76] (L2 := [(2, .bool false), (3, lsv (encI .u8) 1 x0.L_), (10, .int .i64 (IntKind.wrap .i64 x0.N_)), (11, .bool y95), (69, .bool true), (70, .int .i64 y92), (75, .int .i64 ((IntKind.wrap .i64 ((IntKind.wrap .i64 (y87 * 10)) + (IntKind.wrap .i64 x0.C_))))), (76, .int .i64 x0.M_)]) (H2 := [.gone, vecL (encI .u8) 1 5 ([x0.C_] : List Int), vecL (encI .u8) 1 5 (x0.L_ ++ ([x0.C_] : List Int))]) (by kernel_rfl) ?_
            obtain ⟨hm, h152⟩ := asrt h150
            refine RJ.rel (d := (some 77)) (ef := ⟨.int .i64 (Int.tmod ((IntKind.wrap .i64 ((IntKind.wrap .i64 (y87 * 10)) + (IntKind.wrap .i64 x0.C_)))) x0.M_), [], []⟩) (ef' := ⟨.int .i64 (Int.tmod ((IntKind.wrap .i64 ((IntKind.wrap .i64 (y87 * 10)) + (IntKind.wrap .i64 x0.C_)))) x0.M_), [], []⟩) (c := nz x0.M_) (tr2 := []) (H2 := [.gone, vecL (encI .u8) 1 5 ([x0.C_] : List Int), vecL (encI .u8) 1 5 (x0.L_ ++ ([x0.C_] : List Int))]) (by kernel_rfl) hm (fun hc => rfl) (by kernel_rfl) ?_
            refine RJ.seg 3 [2, 3, 10, 11, 80] (L2 := [(2, .bool false), (3, lsv (encI .u8) 1 x0.L_), (10, .int .i64 (IntKind.wrap .i64 x0.N_)), (11, .bool y95), (80, .bool ((decide (y92 = ((Int.tmod ((IntKind.wrap .i64 ((IntKind.wrap .i64 (y87 * 10)) + (IntKind.wrap .i64 x0.C_)))) x0.M_))))))]) (H2 := [.gone, vecL (encI .u8) 1 5 ([x0.C_] : List Int), vecL (encI .u8) 1 5 (x0.L_ ++ ([x0.C_] : List Int))]) (by kernel_rfl) ?_
            refine RJ.caseB 80 (b := (decide (y92 = ((Int.tmod ((IntKind.wrap .i64 ((IntKind.wrap .i64 (y87 * 10)) + (IntKind.wrap .i64 x0.C_)))) x0.M_))))) (by kernel_rfl) (fun hb153 => ?_) (fun hb153 => ?_)
            · have h154 := condT hb153 h152
              refine RJ.seg 3 [2, 3, 10, 11, 80, 83] (L2 := [(2, .bool false), (3, lsv (encI .u8) 1 x0.L_), (10, .int .i64 (IntKind.wrap .i64 x0.N_)), (11, .bool y95), (80, .bool true), (83, .bool (!y95))]) (H2 := [.gone, vecL (encI .u8) 1 5 ([x0.C_] : List Int), vecL (encI .u8) 1 5 (x0.L_ ++ ([x0.C_] : List Int))]) (by kernel_rfl) ?_
              refine RJ.caseB 83 (b := (!y95)) (by kernel_rfl) (fun hb156 => ?_) (fun hb156 => ?_)
              · have h157 := condT hb156 h154
                refine RJ.seg 9 [2, 3, 10, 11, 90, 91, 92] (L2 := [(2, .bool false), (3, lsv (encI .u8) 1 x0.L_), (10, .int .i64 (IntKind.wrap .i64 x0.N_)), (11, .bool y95), (90, .bool true), (91, lsv (encI .u8) 1 x0.L_), (92, .int .i64 (IntKind.wrap .i64 x0.N_))]) (H2 := [.gone, vecL (encI .u8) 1 5 ([x0.C_] : List Int), vecL (encI .u8) 1 5 (x0.L_ ++ ([x0.C_] : List Int))]) (by kernel_rfl) ?_
                obtain ⟨y159, hy160, h161⟩ := bindS h157
                refine RJ.call0 (d := (some 93)) (f := 24) (args := [lsv (encI .u8) 1 x0.L_, .int .i64 0, .int .i64 (IntKind.wrap .i64 x0.N_)]) (v := .bool y159) (tr2 := []) (by kernel_rfl) (by kernel_rfl) (.cons (Le.refl _) (.cons (Le.refl _) (.cons (Le.refl _) .nil))) (oper_In_ok hy160) (by kernel_rfl) ?_
                refine RJ.seg 3 [2, 11, 90, 93, 94, 96] (L2 := [(2, .bool false), (11, .bool y95), (90, .bool true), (93, .bool y159), (94, lsv (encI .u8) 1 x0.L_), (96, .int .i64 ((IntKind.wrap .i64 ((IntKind.wrap .i64 x0.N_) - 1))))]) (H2 := [.gone, vecL (encI .u8) 1 5 ([x0.C_] : List Int), vecL (encI .u8) 1 5 (x0.L_ ++ ([x0.C_] : List Int))]) (by kernel_rfl) ?_
                obtain ⟨y162, hy163, h164⟩ := bindS h161
                refine RJ.call0 (d := (some 97)) (f := 24) (args := [lsv (encI .u8) 1 x0.L_, .int .i64 0, .int .i64 ((IntKind.wrap .i64 ((IntKind.wrap .i64 x0.N_) - 1)))]) (v := .bool y162) (tr2 := []) (by kernel_rfl) (by kernel_rfl) (.cons (Le.refl _) (.cons (Le.refl _) (.cons (Le.refl _) .nil))) (oper_In_ok hy163) (by kernel_rfl) ?_
                refine RJ.seg 1 [2, 11, 90, 93, 98] (L2 := [(2, .bool false), (11, .bool y95), (90, .bool true), (93, .bool y159), (98, .bool y162)]) (H2 := [.gone, vecL (encI .u8) 1 5 ([x0.C_] : List Int), vecL (encI .u8) 1 5 (x0.L_ ++ ([x0.C_] : List Int))]) (by kernel_rfl) ?_
                refine RJ.caseB 98 (b := y162) (by kernel_rfl) (fun hb165 => ?_) (fun hb165 => ?_)
                · have h166 := condT hb165 h164
                  refine RJ.seg 5 [2] (L2 := [(2, .bool (y159 == true))]) (H2 := [.gone, vecL (encI .u8) 1 5 ([x0.C_] : List Int), vecL (encI .u8) 1 5 (x0.L_ ++ ([x0.C_] : List Int))]) (by kernel_rfl) ?_
                  refine RJ.end (by kernel_rfl) ?_
                  obtain rfl := Option.some.inj h166
                  refine PJ.wk (Wk.sel (L2 := [(2, .bool (y159 == true))]) (H2 := []) 0 (by rw [hFH]; rfl) hFD [] (by kernel_rfl) (by kernel_rfl) (by decide) (by kernel_rfl) (by kernel_rfl) (by kernel_rfl) (by kernel_rfl)) ?_
                  exact PJ.cutN [2] (by kernel_rfl) (by kernel_rfl)
                · have h167 := condF hb165 h164
                  refine RJ.seg 5 [2] (L2 := [(2, .bool (y159 == y95))]) (H2 := [.gone, vecL (encI .u8) 1 5 ([x0.C_] : List Int), vecL (encI .u8) 1 5 (x0.L_ ++ ([x0.C_] : List Int))]) (by kernel_rfl) ?_
                  refine RJ.end (by kernel_rfl) ?_
                  obtain rfl := Option.some.inj h167
                  refine PJ.wk (Wk.sel (L2 := [(2, .bool (y159 == y95))]) (H2 := []) 0 (by rw [hFH]; rfl) hFD [] (by kernel_rfl) (by kernel_rfl) (by decide) (by kernel_rfl) (by kernel_rfl) (by kernel_rfl) (by kernel_rfl)) ?_
                  exact PJ.cutN [2] (by kernel_rfl) (by kernel_rfl)
              · have h158 := condF hb156 h154
                refine RJ.seg 1 [2, 3, 10, 11, 80, 83, 84] (L2 := [(2, .bool false), (3, lsv (encI .u8) 1 x0.L_), (10, .int .i64 (IntKind.wrap .i64 x0.N_)), (11, .bool y95), (80, .bool true), (83, .bool false), (84, lsv (encI .u8) 1 x0.L_)]) (H2 := [.gone, vecL (encI .u8) 1 5 ([x0.C_] : List Int), vecL (encI .u8) 1 5 (x0.L_ ++ ([x0.C_] : List Int))]) (by kernel_rfl) ?_
                obtain ⟨y168, hy169, h170⟩ := bindS h158
                refine RJ.call0 (d := (some 85)) (f := 22) (args := [lsv (encI .u8) 1 x0.L_, .int .i64 1000000]) (v := .int .i64 y168) (tr2 := []) (by kernel_rfl) (by kernel_rfl) (.cons (Le.refl _) (.cons (Le.refl _) .nil)) (oper_Mod_ok hy169) (by kernel_rfl) ?_
                refine RJ.seg 5 [2, 3, 10, 11, 90] (L2 := [(2, .bool false), (3, lsv (encI .u8) 1 x0.L_), (10, .int .i64 (IntKind.wrap .i64 x0.N_)), (11, .bool y95), (90, .bool ((decide (y168 = (IntKind.wrap .i64 x0.N_)))))]) (H2 := [.gone, vecL (encI .u8) 1 5 ([x0.C_] : List Int), vecL (encI .u8) 1 5 (x0.L_ ++ ([x0.C_] : List Int))]) (by kernel_rfl) ?_
                refine RJ.caseB 90 (b := (decide (y168 = (IntKind.wrap .i64 x0.N_)))) (by kernel_rfl) (fun hb171 => ?_) (fun hb171 => ?_)
                · have h172 := condT hb171 h170
                  refine RJ.seg 2 [2, 3, 10, 11, 90, 91, 92] (L2 := [(2, .bool false), (3, lsv (encI .u8) 1 x0.L_), (10, .int .i64 (IntKind.wrap .i64 x0.N_)), (11, .bool y95), (90, .bool true), (91, lsv (encI .u8) 1 x0.L_), (92, .int .i64 (IntKind.wrap .i64 x0.N_))]) (H2 := [.gone, vecL (encI .u8) 1 5 ([x0.C_] : List Int), vecL (encI .u8) 1 5 (x0.L_ ++ ([x0.C_] : List Int))]) (by kernel_rfl) ?_
                  obtain ⟨y174, hy175, h176⟩ := bindS h172
                  refine RJ.call0 (d := (some 93)) (f := 24) (args := [lsv (encI .u8) 1 x0.L_, .int .i64 0, .int .i64 (IntKind.wrap .i64 x0.N_)]) (v := .bool y174) (tr2 := []) (by kernel_rfl) (by kernel_rfl) (.cons (Le.refl _) (.cons (Le.refl _) (.cons (Le.refl _) .nil))) (oper_In_ok hy175) (by kernel_rfl) ?_
                  refine RJ.seg 3 [2, 11, 90, 93, 94, 96] (L2 := [(2, .bool false), (11, .bool y95), (90, .bool true), (93, .bool y174), (94, lsv (encI .u8) 1 x0.L_), (96, .int .i64 ((IntKind.wrap .i64 ((IntKind.wrap .i64 x0.N_) - 1))))]) (H2 := [.gone, vecL (encI .u8) 1 5 ([x0.C_] : List Int), vecL (encI .u8) 1 5 (x0.L_ ++ ([x0.C_] : List Int))]) (by kernel_rfl) ?_
                  obtain ⟨y177, hy178, h179⟩ := bindS h176
                  refine RJ.call0 (d := (some 97)) (f := 24) (args := [lsv (encI .u8) 1 x0.L_, .int .i64 0, .int .i64 ((IntKind.wrap .i64 ((IntKind.wrap .i64 x0.N_) - 1)))]) (v := .bool y177) (tr2 := []) (by kernel_rfl) (by kernel_rfl) (.cons (Le.refl _) (.cons (Le.refl _) (.cons (Le.refl _) .nil))) (oper_In_ok hy178) (by kernel_rfl) ?_
                  refine RJ.seg 1 [2, 11, 90, 93, 98] (L2 := [(2, .bool false), (11, .bool y95), (90, .bool true), (93, .bool y174), (98, .bool y177)]) (H2 := [.gone, vecL (encI .u8) 1 5 ([x0.C_] : List Int), vecL (encI .u8) 1 5 (x0.L_ ++ ([x0.C_] : List Int))]) (by kernel_rfl) ?_
                  refine RJ.caseB 98 (b := y177) (by kernel_rfl) (fun hb180 => ?_) (fun hb180 => ?_)
                  · have h181 := condT hb180 h179
                    refine RJ.seg 5 [2] (L2 := [(2, .bool (y174 == true))]) (H2 := [.gone, vecL (encI .u8) 1 5 ([x0.C_] : List Int), vecL (encI .u8) 1 5 (x0.L_ ++ ([x0.C_] : List Int))]) (by kernel_rfl) ?_
                    refine RJ.end (by kernel_rfl) ?_
                    obtain rfl := Option.some.inj h181
                    refine PJ.wk (Wk.sel (L2 := [(2, .bool (y174 == true))]) (H2 := []) 0 (by rw [hFH]; rfl) hFD [] (by kernel_rfl) (by kernel_rfl) (by decide) (by kernel_rfl) (by kernel_rfl) (by kernel_rfl) (by kernel_rfl)) ?_
                    exact PJ.cutN [2] (by kernel_rfl) (by kernel_rfl)
                  · have h182 := condF hb180 h179
                    refine RJ.seg 5 [2] (L2 := [(2, .bool (y174 == y95))]) (H2 := [.gone, vecL (encI .u8) 1 5 ([x0.C_] : List Int), vecL (encI .u8) 1 5 (x0.L_ ++ ([x0.C_] : List Int))]) (by kernel_rfl) ?_
                    refine RJ.end (by kernel_rfl) ?_
                    obtain rfl := Option.some.inj h182
                    refine PJ.wk (Wk.sel (L2 := [(2, .bool (y174 == y95))]) (H2 := []) 0 (by rw [hFH]; rfl) hFD [] (by kernel_rfl) (by kernel_rfl) (by decide) (by kernel_rfl) (by kernel_rfl) (by kernel_rfl) (by kernel_rfl)) ?_
                    exact PJ.cutN [2] (by kernel_rfl) (by kernel_rfl)
                · have h173 := condF hb171 h170
                  refine RJ.seg 13 [2] (L2 := [(2, .bool false)]) (H2 := [.gone, vecL (encI .u8) 1 5 ([x0.C_] : List Int), vecL (encI .u8) 1 5 (x0.L_ ++ ([x0.C_] : List Int))]) (by kernel_rfl) ?_
                  refine RJ.end (by kernel_rfl) ?_
                  obtain rfl := Option.some.inj h173
                  refine PJ.wk (Wk.sel (L2 := [(2, .bool false)]) (H2 := []) 0 (by rw [hFH]; rfl) hFD [] (by kernel_rfl) (by kernel_rfl) (by decide) (by kernel_rfl) (by kernel_rfl) (by kernel_rfl) (by kernel_rfl)) ?_
                  exact PJ.cutN [2] (by kernel_rfl) (by kernel_rfl)
            · have h155 := condF hb153 h152
              refine RJ.seg 23 [2] (L2 := [(2, .bool false)]) (H2 := [.gone, vecL (encI .u8) 1 5 ([x0.C_] : List Int), vecL (encI .u8) 1 5 (x0.L_ ++ ([x0.C_] : List Int))]) (by kernel_rfl) ?_
              refine RJ.end (by kernel_rfl) ?_
              obtain rfl := Option.some.inj h155
              refine PJ.wk (Wk.sel (L2 := [(2, .bool false)]) (H2 := []) 0 (by rw [hFH]; rfl) hFD [] (by kernel_rfl) (by kernel_rfl) (by decide) (by kernel_rfl) (by kernel_rfl) (by kernel_rfl) (by kernel_rfl)) ?_
              exact PJ.cutN [2] (by kernel_rfl) (by kernel_rfl)
          · have h151 := condF hb149 h147
            refine RJ.seg 34 [2] (L2 := [(2, .bool false)]) (H2 := [.gone, vecL (encI .u8) 1 5 ([x0.C_] : List Int), vecL (encI .u8) 1 5 (x0.L_ ++ ([x0.C_] : List Int))]) (by kernel_rfl) ?_
            refine RJ.end (by kernel_rfl) ?_
            obtain rfl := Option.some.inj h151
            refine PJ.wk (Wk.sel (L2 := [(2, .bool false)]) (H2 := []) 0 (by rw [hFH]; rfl) hFD [] (by kernel_rfl) (by kernel_rfl) (by decide) (by kernel_rfl) (by kernel_rfl) (by kernel_rfl) (by kernel_rfl)) ?_
            exact PJ.cutN [2] (by kernel_rfl) (by kernel_rfl)
        · have h148 := condF hb146 h144
          refine RJ.seg 39 [2] (L2 := [(2, .bool false)]) (H2 := [.gone, vecL (encI .u8) 1 5 ([x0.C_] : List Int), vecL (encI .u8) 1 5 (x0.L_ ++ ([x0.C_] : List Int))]) (by kernel_rfl) ?_
          refine RJ.end (by kernel_rfl) ?_
          obtain rfl := Option.some.inj h148
          refine PJ.wk (Wk.sel (L2 := [(2, .bool false)]) (H2 := []) 0 (by rw [hFH]; rfl) hFD [] (by kernel_rfl) (by kernel_rfl) (by decide) (by kernel_rfl) (by kernel_rfl) (by kernel_rfl) (by kernel_rfl)) ?_
          exact PJ.cutN [2] (by kernel_rfl) (by kernel_rfl)
      · have h145 := condF hb143 hy140
        refine RJ.seg 43 [2] (L2 := [(2, .bool false)]) (H2 := [.gone, vecL (encI .u8) 1 5 ([x0.C_] : List Int), vecL (encI .u8) 1 5 (x0.L_ ++ ([x0.C_] : List Int))]) (by kernel_rfl) ?_
        refine RJ.end (by kernel_rfl) ?_
        obtain rfl := Option.some.inj h145
        refine PJ.wk (Wk.sel (L2 := [(2, .bool false)]) (H2 := []) 0 (by rw [hFH]; rfl) hFD [] (by kernel_rfl) (by kernel_rfl) (by decide) (by kernel_rfl) (by kernel_rfl) (by kernel_rfl) (by kernel_rfl)) ?_
        exact PJ.cutN [2] (by kernel_rfl) (by kernel_rfl)
    · refine K.ret (by kernel_rfl) ?_
      obtain rfl := Option.some.inj h142
      exact K.ret0 (.inr rfl) hFn hFH hFD (by kernel_rfl) (by kernel_rfl) (by kernel_rfl)

def exerguelaw07_OperWhole (x0 : St23) : Option (Bool) :=
  (Option.bind exerguelaw07_shown fun y1 => (Option.bind (Option.bind (bif (decide (((IntKind.wrap .i64 ((x0.I_.length : Int) + (x0.F_.length : Int)))) > 1000)) then (some true) else (Option.bind (exergueref07_Right x0) fun y44 => (some (!y44)))) fun (s36 : Bool) => (bif s36 then (some (.inr y1)) else (some (.inl ())))) (joinX fun (s25 : Unit) => (Option.bind (loopN (fun (s269 : Int) => (bif (decide (s269 < (([105, 118, 119, 102, 116, 99, 101] : List UInt8).length : Int))) then (Option.bind (bif inR s269 ([105, 118, 119, 102, 116, 99, 101] : List UInt8).length then (Option.bind (oper_Operand x0 ((((([105, 118, 119, 102, 116, 99, 101] : List UInt8).getD (s269 : Int).toNat 0).toNat : Nat) : Int))) fun y451 => (Option.bind (bif (!y451.2) then (some true) else (bif (decide ((y451.1.length : Int) > 0)) then (bif inR 0 y451.1.length then (some ((decide ((nth y451.1 0) = 0)))) else none) else (some false))) fun (s461 : Bool) => (bif s461 then (some (.inr (.inr (.inr false)))) else (some (.inl ()))))) else none) (joinX fun (s445 : Unit) => (some (.inl (IntKind.wrap .i64 (s269 + 1)))))) else (some (.inr (.inl ()))))) big 0) (joinX fun (s264 : Unit) => (Option.bind (oper_Operand x0 110) fun y482 => (Option.bind (oper_Operand x0 105) fun y485 => (Option.bind (oper_Operand x0 116) fun y488 => (Option.bind (bif y1 then (bif (decide ((y488.1.length : Int) = 0)) then (bif (y482.2 == (decide (x0.W_ = 0))) then (bif (!y482.2) then (some true) else (Option.bind (exergueref01_Row y482.1 y485.1) fun y532 => (some y532))) else (some false)) else (bif (y482.2 == false) then (bif (!y482.2) then (some true) else (Option.bind (exergueref01_Row y482.1 y485.1) fun y541 => (some y541))) else (some false))) else (some false)) fun (s515 : Bool) => (some s515))))))))))
theorem exerguelaw07_OperWhole_ok {x0 : St23} {r : Bool} (h : exerguelaw07_OperWhole x0 = some r) : SC Try.prog 7 [.agg [lsv (encI .u8) 1 x0.I_, lsv (encI .u8) 1 x0.F_, .int .i64 x0.W_, .int .i64 x0.C_]] [] (.bool r) [] := by
  refine K.fn (fn := Try.f7) (by kernel_rfl) (by kernel_rfl) (by kernel_rfl) (by kernel_rfl) (by kernel_rfl) (fun F hFn hFH hFD => ?_)
  unfold exerguelaw07_OperWhole at h
  refine K.seq (by kernel_rfl) ?_
  refine K.region (by kernel_rfl) ?_
  refine RJ.seg 2 [1, 2] (L2 := [(1, .ptr 0 0), (2, .bool false)]) (H2 := [.box [lsv (encI .u8) 1 x0.I_, lsv (encI .u8) 1 x0.F_, .int .i64 x0.W_, .int .i64 x0.C_]]) (by kernel_rfl) ?_
  refine RJ.end (by kernel_rfl) ?_
  refine PJ.next ?_
  refine K.seq (by kernel_rfl) ?_
  refine K.region (by kernel_rfl) ?_
  obtain ⟨y1, hy2, h3⟩ := bindS h
  refine RJ.call0 (d := (some 14)) (f := 10) (args := []) (v := .bool y1) (tr2 := []) (by kernel_rfl) (by kernel_rfl) .nil (exerguelaw07_shown_ok hy2) (by kernel_rfl) ?_
  refine RJ.seg 1 [1, 2, 3] (L2 := [(1, .ptr 0 0), (2, .bool false), (3, .bool y1)]) (H2 := [.box [lsv (encI .u8) 1 x0.I_, lsv (encI .u8) 1 x0.F_, .int .i64 x0.W_, .int .i64 x0.C_]]) (by kernel_rfl) ?_
  refine RJ.end (by kernel_rfl) ?_
  refine PJ.next ?_
  obtain ⟨y26, hy27, h28⟩ := bindS h3
  refine K.cutX (by kernel_rfl) (fun (s25 : Unit) => ([(1, .ptr 0 0), (2, .bool false), (3, .bool y1)], [.box [lsv (encI .u8) 1 x0.I_, lsv (encI .u8) 1 x0.F_, .int .i64 x0.W_, .int .i64 x0.C_]])) y26 ?_ (fun s25 hs => ?_)
  · obtain ⟨s36, hy38, h40⟩ := bindS hy27
    refine K.cutN (by kernel_rfl) (fun (s36 : Bool) => ([(1, .ptr 0 0), (2, .bool false), (3, .bool y1), (27, .bool s36)], [.box [lsv (encI .u8) 1 x0.I_, lsv (encI .u8) 1 x0.F_, .int .i64 x0.W_, .int .i64 x0.C_]])) s36 ?_ ?_
    · refine K.region (by kernel_rfl) ?_
      refine RJ.seg 9 [1, 2, 3, 23] (L2 := [(1, .ptr 0 0), (2, .bool false), (3, .bool y1), (23, .bool ((decide (((IntKind.wrap .i64 ((x0.I_.length : Int) + (x0.F_.length : Int)))) > 1000))))]) (H2 := [.box [lsv (encI .u8) 1 x0.I_, lsv (encI .u8) 1 x0.F_, .int .i64 x0.W_, .int .i64 x0.C_]]) (by kernel_rfl) ?_
      refine RJ.caseB 23 (b := (decide (((IntKind.wrap .i64 ((x0.I_.length : Int) + (x0.F_.length : Int)))) > 1000))) (by kernel_rfl) (fun hb41 => ?_) (fun hb41 => ?_)
      · have h42 := condT hb41 hy38
        refine RJ.seg 4 [1, 2, 3, 27] (L2 := [(1, .ptr 0 0), (2, .bool false), (3, .bool y1), (27, .bool true)]) (H2 := [.box [lsv (encI .u8) 1 x0.I_, lsv (encI .u8) 1 x0.F_, .int .i64 x0.W_, .int .i64 x0.C_]]) (by kernel_rfl) ?_
        refine RJ.end (by kernel_rfl) ?_
        obtain rfl := Option.some.inj h42
        exact PJ.cutN [1, 2, 3, 27] (by kernel_rfl) (by kernel_rfl)
      · have h43 := condF hb41 hy38
        refine RJ.seg 1 [1, 2, 3, 23, 24] (L2 := [(1, .ptr 0 0), (2, .bool false), (3, .bool y1), (23, .bool false), (24, .agg [lsv (encI .u8) 1 x0.I_, lsv (encI .u8) 1 x0.F_, .int .i64 x0.W_, .int .i64 x0.C_])]) (H2 := [.box [lsv (encI .u8) 1 x0.I_, lsv (encI .u8) 1 x0.F_, .int .i64 x0.W_, .int .i64 x0.C_]]) (by kernel_rfl) ?_
        obtain ⟨y44, hy45, h46⟩ := bindS h43
        refine RJ.call0 (d := (some 25)) (f := 14) (args := [.agg [lsv (encI .u8) 1 x0.I_, lsv (encI .u8) 1 x0.F_, .int .i64 x0.W_, .int .i64 x0.C_]]) (v := .bool y44) (tr2 := []) (by kernel_rfl) (by kernel_rfl) (.cons (Le.refl _) .nil) (exergueref07_Right_ok hy45) (by kernel_rfl) ?_
        refine RJ.seg 2 [1, 2, 3, 27] (L2 := [(1, .ptr 0 0), (2, .bool false), (3, .bool y1), (27, .bool (!y44))]) (H2 := [.box [lsv (encI .u8) 1 x0.I_, lsv (encI .u8) 1 x0.F_, .int .i64 x0.W_, .int .i64 x0.C_]]) (by kernel_rfl) ?_
        refine RJ.end (by kernel_rfl) ?_
        obtain rfl := Option.some.inj h46
        exact PJ.cutN [1, 2, 3, 27] (by kernel_rfl) (by kernel_rfl)
    · refine J.caseB 27 (b := s36) (by kernel_rfl) (fun hb47 => ?_) (fun hb47 => ?_)
      · have h48 := condT hb47 h40
        refine K.condT (by kernel_rfl) ?_
        refine K.seq (by kernel_rfl) ?_
        refine K.region (by kernel_rfl) ?_
        refine RJ.seg 2 [1, 2, 3] (L2 := [(1, .ptr 0 0), (2, .bool y1), (3, .bool y1)]) (H2 := [.box [lsv (encI .u8) 1 x0.I_, lsv (encI .u8) 1 x0.F_, .int .i64 x0.W_, .int .i64 x0.C_]]) (by kernel_rfl) ?_
        refine RJ.end (by kernel_rfl) ?_
        refine PJ.next ?_
        refine K.ret (by kernel_rfl) ?_
        obtain rfl := Option.some.inj h48
        have h50 := joinX_inr h28
        refine PJ.cutXr (fun e => nomatch e) ?_
        obtain rfl := Option.some.inj h50
        exact K.ret0 (.inr rfl) hFn hFH hFD (by kernel_rfl) (by kernel_rfl) (by kernel_rfl)
      · have h49 := condF hb47 h40
        refine K.condF (by kernel_rfl) ?_
        refine K.skip (by kernel_rfl) ?_
        obtain rfl := Option.some.inj h49
        exact PJ.cutXl [1, 2, 3] (by kernel_rfl) (by kernel_rfl)
  · subst hs
    have h29 := joinX_inl h28
    refine K.seq (by kernel_rfl) ?_
    refine K.region (by kernel_rfl) ?_
    refine RJ.seg 1 [1, 2, 3, 4] (L2 := [(1, .ptr 0 0), (2, .bool false), (3, .bool y1), (4, .str ([105, 118, 119, 102, 116, 99, 101] : List UInt8))]) (H2 := [.box [lsv (encI .u8) 1 x0.I_, lsv (encI .u8) 1 x0.F_, .int .i64 x0.W_, .int .i64 x0.C_]]) (by kernel_rfl) ?_
    refine RJ.end (by kernel_rfl) ?_
    refine PJ.next ?_
    obtain ⟨y265, hy266, h267⟩ := bindS h29
    refine K.cutX (by kernel_rfl) (fun (s264 : Unit) => ([(1, .ptr 0 0), (2, .bool false), (3, .bool y1)], [.box [lsv (encI .u8) 1 x0.I_, lsv (encI .u8) 1 x0.F_, .int .i64 x0.W_, .int .i64 x0.C_]])) y265 ?_ (fun s264 hs => ?_)
    · refine K.seq (by kernel_rfl) ?_
      refine K.region (by kernel_rfl) ?_
      refine RJ.seg 1 [1, 2, 3, 4, 5] (L2 := [(1, .ptr 0 0), (2, .bool false), (3, .bool y1), (4, .str ([105, 118, 119, 102, 116, 99, 101] : List UInt8)), (5, .int .i64 0)]) (H2 := [.box [lsv (encI .u8) 1 x0.I_, lsv (encI .u8) 1 x0.F_, .int .i64 x0.W_, .int .i64 x0.C_]]) (by kernel_rfl) ?_
      refine RJ.end (by kernel_rfl) ?_
      refine PJ.next ?_
      refine K.block 0 (by kernel_rfl) ?_
      refine K.loop (by kernel_rfl) (fun (s269 : Int) => ([(1, .ptr 0 0), (2, .bool false), (3, .bool y1), (4, .str ([105, 118, 119, 102, 116, 99, 101] : List UInt8)), (5, .int .i64 s269)], [.box [lsv (encI .u8) 1 x0.I_, lsv (encI .u8) 1 x0.F_, .int .i64 x0.W_, .int .i64 x0.C_]])) hy266 [1, 2, 3, 4, 5] (by kernel_rfl) (by kernel_rfl) (fun s269 x411 hs410 => ?_)
      refine K.seq (by kernel_rfl) ?_
      refine K.seq (by kernel_rfl) ?_
      refine K.region (by kernel_rfl) ?_
      refine RJ.seg 4 [1, 2, 3, 4, 5, 32] (L2 := [(1, .ptr 0 0), (2, .bool false), (3, .bool y1), (4, .str ([105, 118, 119, 102, 116, 99, 101] : List UInt8)), (5, .int .i64 s269), (32, .bool ((decide (s269 < (([105, 118, 119, 102, 116, 99, 101] : List UInt8).length : Int)))))]) (H2 := [.box [lsv (encI .u8) 1 x0.I_, lsv (encI .u8) 1 x0.F_, .int .i64 x0.W_, .int .i64 x0.C_]]) (by kernel_rfl) ?_
      refine RJ.end (by kernel_rfl) ?_
      refine PJ.next ?_
      refine J.caseB 32 (b := (decide (s269 < (([105, 118, 119, 102, 116, 99, 101] : List UInt8).length : Int)))) (by kernel_rfl) (fun hb412 => ?_) (fun hb412 => ?_)
      · have h413 := condT hb412 hs410
        refine K.condT (by kernel_rfl) ?_
        refine K.skip (by kernel_rfl) ?_
        refine PJ.next ?_
        obtain ⟨y446, hy447, h448⟩ := bindS h413
        refine K.cutX (by kernel_rfl) (fun (s445 : Unit) => ([(1, .ptr 0 0), (2, .bool false), (3, .bool y1), (4, .str ([105, 118, 119, 102, 116, 99, 101] : List UInt8)), (5, .int .i64 s269)], [.box [lsv (encI .u8) 1 x0.I_, lsv (encI .u8) 1 x0.F_, .int .i64 x0.W_, .int .i64 x0.C_]])) y446 ?_ (fun s445 hs => ?_)
        · refine K.block 1 (by kernel_rfl) ?_
          refine K.seq (by kernel_rfl) ?_
          refine J.keep [1, 2, 3, 4, 5] (L2 := [(1, .ptr 0 0), (2, .bool false), (3, .bool y1), (4, .str ([105, 118, 119, 102, 116, 99, 101] : List UInt8)), (5, .int .i64 s269)]) (by kernel_rfl) ?_
          refine K.draw (by kernel_rfl) (by kernel_rfl) (by kernel_rfl) (H2 := [.box [lsv (encI .u8) 1 x0.I_, lsv (encI .u8) 1 x0.F_, .int .i64 x0.W_, .int .i64 x0.C_], .res]) (by kernel_rfl) (n := 1) (by kernel_rfl) ?_
          refine RJ.segD 3 (tr2 := [([0, 1], []), ([], []), ([], [])]) (L2 := [(38, .int .i64 s269), (37, .str ([105, 118, 119, 102, 116, 99, 101] : List UInt8)), (36, .agg [lsv (encI .u8) 1 x0.I_, lsv (encI .u8) 1 x0.F_, .int .i64 x0.W_, .int .i64 x0.C_]), (1, .ptr 0 0), (2, .bool false), (3, .bool y1), (4, .str ([105, 118, 119, 102, 116, 99, 101] : List UInt8)), (5, .int .i64 s269)]) (H2 := [.box [lsv (encI .u8) 1 x0.I_, lsv (encI .u8) 1 x0.F_, .int .i64 x0.W_, .int .i64 x0.C_], .res]) (by kernel_rfl) ?_
          obtain ⟨hm, h450⟩ := asrt hy447
          refine RJ.rel (d := (some 39)) (ef := ⟨.int .u8 (((([105, 118, 119, 102, 116, 99, 101] : List UInt8).getD (s269 : Int).toNat 0).toNat : Nat) : Int), [], []⟩) (ef' := ⟨.int .u8 (((([105, 118, 119, 102, 116, 99, 101] : List UInt8).getD (s269 : Int).toNat 0).toNat : Nat) : Int), [], []⟩) (c := inR s269 ([105, 118, 119, 102, 116, 99, 101] : List UInt8).length) (tr2 := [([0, 1], []), ([], []), ([], []), ([], [])]) (H2 := [.box [lsv (encI .u8) 1 x0.I_, lsv (encI .u8) 1 x0.F_, .int .i64 x0.W_, .int .i64 x0.C_], .res]) (by kernel_rfl) hm (fun hc => rfl) (by kernel_rfl) ?_
          obtain ⟨y451, hy452, h453⟩ := bindS h450
          refine RJ.call0 (d := (some 40)) (f := 18) (args := [.agg [lsv (encI .u8) 1 x0.I_, lsv (encI .u8) 1 x0.F_, .int .i64 x0.W_, .int .i64 x0.C_], .int .u8 ((((([105, 118, 119, 102, 116, 99, 101] : List UInt8).getD (s269 : Int).toNat 0).toNat : Nat) : Int))]) (v := .tup [lsv (encI .u8) 1 y451.1, .bool y451.2]) (tr2 := [([0, 1], []), ([], []), ([], []), ([], []), ([], [2, 3])]) (by kernel_rfl) (by kernel_rfl) (.cons (Le.refl _) (.cons (Le.refl _) .nil)) (oper_Operand_ok hy452) (by kernel_rfl) ?_
          refine RJ.segD 5 (tr2 := [([0, 1], []), ([], []), ([], []), ([], []), ([], [2, 3]), ([], []), ([], []), ([], []), ([], []), ([], [])]) (L2 := [(7, .bool y451.2), (6, lsv (encI .u8) 1 y451.1), (42, .bool y451.2), (41, lsv (encI .u8) 1 y451.1), (35, .tup [lsv (encI .u8) 1 y451.1, .bool y451.2]), (40, .tup [lsv (encI .u8) 1 y451.1, .bool y451.2]), (39, .int .u8 ((((([105, 118, 119, 102, 116, 99, 101] : List UInt8).getD (s269 : Int).toNat 0).toNat : Nat) : Int))), (38, .int .i64 s269), (37, .str ([105, 118, 119, 102, 116, 99, 101] : List UInt8)), (36, .agg [lsv (encI .u8) 1 x0.I_, lsv (encI .u8) 1 x0.F_, .int .i64 x0.W_, .int .i64 x0.C_]), (1, .ptr 0 0), (2, .bool false), (3, .bool y1), (4, .str ([105, 118, 119, 102, 116, 99, 101] : List UInt8)), (5, .int .i64 s269)]) (H2 := [.box [lsv (encI .u8) 1 x0.I_, lsv (encI .u8) 1 x0.F_, .int .i64 x0.W_, .int .i64 x0.C_], .res]) (by kernel_rfl) ?_
          refine RJ.end (by kernel_rfl) ?_
          refine PJ.next ?_
          obtain ⟨s461, hy463, h465⟩ := bindS h453
          refine K.cutN (by kernel_rfl) (fun (s461 : Bool) => ([(1, .ptr 0 0), (2, .bool false), (3, .bool y1), (4, .str ([105, 118, 119, 102, 116, 99, 101] : List UInt8)), (5, .int .i64 s269), (55, .bool s461)], [.box [lsv (encI .u8) 1 x0.I_, lsv (encI .u8) 1 x0.F_, .int .i64 x0.W_, .int .i64 x0.C_]])) s461 ?_ ?_
          · refine K.region (by kernel_rfl) ?_
            refine RJ.seg 3 [1, 2, 3, 4, 5, 6, 45] (L2 := [(1, .ptr 0 0), (2, .bool false), (3, .bool y1), (4, .str ([105, 118, 119, 102, 116, 99, 101] : List UInt8)), (5, .int .i64 s269), (6, lsv (encI .u8) 1 y451.1), (45, .bool (!y451.2))]) (H2 := [.box [lsv (encI .u8) 1 x0.I_, lsv (encI .u8) 1 x0.F_, .int .i64 x0.W_, .int .i64 x0.C_], .res]) (by kernel_rfl) ?_
            refine RJ.caseB 45 (b := (!y451.2)) (by kernel_rfl) (fun hb466 => ?_) (fun hb466 => ?_)
            · have h467 := condT hb466 hy463
              refine RJ.seg 10 [1, 2, 3, 4, 5, 55] (L2 := [(1, .ptr 0 0), (2, .bool false), (3, .bool y1), (4, .str ([105, 118, 119, 102, 116, 99, 101] : List UInt8)), (5, .int .i64 s269), (55, .bool true)]) (H2 := [.box [lsv (encI .u8) 1 x0.I_, lsv (encI .u8) 1 x0.F_, .int .i64 x0.W_, .int .i64 x0.C_], .res]) (by kernel_rfl) ?_
              refine RJ.end (by kernel_rfl) ?_
              obtain rfl := Option.some.inj h467
              refine PJ.wk (Wk.sel (L2 := [(1, .ptr 0 0), (2, .bool false), (3, .bool y1), (4, .str ([105, 118, 119, 102, 116, 99, 101] : List UInt8)), (5, .int .i64 s269), (55, .bool true)]) (H2 := [.box [lsv (encI .u8) 1 x0.I_, lsv (encI .u8) 1 x0.F_, .int .i64 x0.W_, .int .i64 x0.C_]]) 0 (by rw [hFH]; rfl) hFD [0] (by kernel_rfl) (by kernel_rfl) (by decide) (by kernel_rfl) (by kernel_rfl) (by kernel_rfl) (by kernel_rfl)) ?_
              exact PJ.cutN [1, 2, 3, 4, 5, 55] (by kernel_rfl) (by kernel_rfl)
            · have h468 := condF hb466 hy463
              refine RJ.seg 4 [1, 2, 3, 4, 5, 6, 45, 49] (L2 := [(1, .ptr 0 0), (2, .bool false), (3, .bool y1), (4, .str ([105, 118, 119, 102, 116, 99, 101] : List UInt8)), (5, .int .i64 s269), (6, lsv (encI .u8) 1 y451.1), (45, .bool false), (49, .bool ((decide ((y451.1.length : Int) > 0))))]) (H2 := [.box [lsv (encI .u8) 1 x0.I_, lsv (encI .u8) 1 x0.F_, .int .i64 x0.W_, .int .i64 x0.C_], .res]) (by kernel_rfl) ?_
              refine RJ.caseB 49 (b := (decide ((y451.1.length : Int) > 0))) (by kernel_rfl) (fun hb469 => ?_) (fun hb469 => ?_)
              · have h470 := condT hb469 h468
                refine RJ.seg 1 [1, 2, 3, 4, 5, 45, 49, 50] (L2 := [(1, .ptr 0 0), (2, .bool false), (3, .bool y1), (4, .str ([105, 118, 119, 102, 116, 99, 101] : List UInt8)), (5, .int .i64 s269), (45, .bool false), (49, .bool true), (50, lsv (encI .u8) 1 y451.1)]) (H2 := [.box [lsv (encI .u8) 1 x0.I_, lsv (encI .u8) 1 x0.F_, .int .i64 x0.W_, .int .i64 x0.C_], .res]) (by kernel_rfl) ?_
                obtain ⟨hm, h472⟩ := asrt h470
                refine RJ.rel (d := (some 51)) (ef := ⟨.ep (((y451.1.flatMap (encI .u8)).drop ((0 : Int).toNat * 1)).take 1), [], []⟩) (ef' := ⟨.ep ((encI .u8) (nth y451.1 0)), [], []⟩) (c := inR 0 y451.1.length) (tr2 := []) (H2 := [.box [lsv (encI .u8) 1 x0.I_, lsv (encI .u8) 1 x0.F_, .int .i64 x0.W_, .int .i64 x0.C_], .res]) (by kernel_rfl) hm (fun hc => N.idx (encI_len .u8) hc) (by kernel_rfl) ?_
                refine RJ.seg 4 [1, 2, 3, 4, 5, 55] (L2 := [(1, .ptr 0 0), (2, .bool false), (3, .bool y1), (4, .str ([105, 118, 119, 102, 116, 99, 101] : List UInt8)), (5, .int .i64 s269), (55, .bool ((decide ((nth y451.1 0) = 0))))]) (H2 := [.box [lsv (encI .u8) 1 x0.I_, lsv (encI .u8) 1 x0.F_, .int .i64 x0.W_, .int .i64 x0.C_], .res]) (by kernel_rfl) ?_
                refine RJ.end (by kernel_rfl) ?_
                obtain rfl := Option.some.inj h472
                refine PJ.wk (Wk.sel (L2 := [(1, .ptr 0 0), (2, .bool false), (3, .bool y1), (4, .str ([105, 118, 119, 102, 116, 99, 101] : List UInt8)), (5, .int .i64 s269), (55, .bool ((decide ((nth y451.1 0) = 0))))]) (H2 := [.box [lsv (encI .u8) 1 x0.I_, lsv (encI .u8) 1 x0.F_, .int .i64 x0.W_, .int .i64 x0.C_]]) 0 (by rw [hFH]; rfl) hFD [0] (by kernel_rfl) (by kernel_rfl) (by decide) (by kernel_rfl) (by kernel_rfl) (by kernel_rfl) (by kernel_rfl)) ?_
                exact PJ.cutN [1, 2, 3, 4, 5, 55] (by kernel_rfl) (by kernel_rfl)
              · have h471 := condF hb469 h468
                refine RJ.seg 6 [1, 2, 3, 4, 5, 55] (L2 := [(1, .ptr 0 0), (2, .bool false), (3, .bool y1), (4, .str ([105, 118, 119, 102, 116, 99, 101] : List UInt8)), (5, .int .i64 s269), (55, .bool false)]) (H2 := [.box [lsv (encI .u8) 1 x0.I_, lsv (encI .u8) 1 x0.F_, .int .i64 x0.W_, .int .i64 x0.C_], .res]) (by kernel_rfl) ?_
                refine RJ.end (by kernel_rfl) ?_
                obtain rfl := Option.some.inj h471
                refine PJ.wk (Wk.sel (L2 := [(1, .ptr 0 0), (2, .bool false), (3, .bool y1), (4, .str ([105, 118, 119, 102, 116, 99, 101] : List UInt8)), (5, .int .i64 s269), (55, .bool false)]) (H2 := [.box [lsv (encI .u8) 1 x0.I_, lsv (encI .u8) 1 x0.F_, .int .i64 x0.W_, .int .i64 x0.C_]]) 0 (by rw [hFH]; rfl) hFD [0] (by kernel_rfl) (by kernel_rfl) (by decide) (by kernel_rfl) (by kernel_rfl) (by kernel_rfl) (by kernel_rfl)) ?_
                exact PJ.cutN [1, 2, 3, 4, 5, 55] (by kernel_rfl) (by kernel_rfl)
          · refine J.caseB 55 (b := s461) (by kernel_rfl) (fun hb473 => ?_) (fun hb473 => ?_)
            · have h474 := condT hb473 h465
              refine K.condT (by kernel_rfl) ?_
              refine K.seq (by kernel_rfl) ?_
              refine K.region (by kernel_rfl) ?_
              refine RJ.seg 1 [1, 2, 3, 4, 5] (L2 := [(1, .ptr 0 0), (2, .bool false), (3, .bool y1), (4, .str ([105, 118, 119, 102, 116, 99, 101] : List UInt8)), (5, .int .i64 s269)]) (H2 := [.box [lsv (encI .u8) 1 x0.I_, lsv (encI .u8) 1 x0.F_, .int .i64 x0.W_, .int .i64 x0.C_]]) (by kernel_rfl) ?_
              refine RJ.end (by kernel_rfl) ?_
              refine PJ.next ?_
              refine K.ret (by kernel_rfl) ?_
              refine PJ.blockRet ?_
              obtain rfl := Option.some.inj h474
              have h476 := joinX_inr h448
              refine PJ.cutXr (fun e => nomatch e) ?_
              obtain rfl := Option.some.inj h476
              refine PJ.loopOut (fun e => nomatch e) (fun he479 => ?_)
              have h477 := congrArg some he479
              refine PJ.blockRet ?_
              obtain rfl := Option.some.inj h477
              have h478 := joinX_inr h267
              refine PJ.cutXr (fun e => nomatch e) ?_
              obtain rfl := Option.some.inj h478
              exact K.ret0 (.inr rfl) hFn hFH hFD (by kernel_rfl) (by kernel_rfl) (by kernel_rfl)
            · have h475 := condF hb473 h465
              refine K.condF (by kernel_rfl) ?_
              refine K.skip (by kernel_rfl) ?_
              refine PJ.blockNormal ?_
              obtain rfl := Option.some.inj h475
              exact PJ.cutXl [1, 2, 3, 4, 5] (by kernel_rfl) (by kernel_rfl)
        · subst hs
          have h449 := joinX_inl h448
          refine K.region (by kernel_rfl) ?_
          refine RJ.seg 3 [1, 2, 3, 4, 5] (L2 := [(1, .ptr 0 0), (2, .bool false), (3, .bool y1), (4, .str ([105, 118, 119, 102, 116, 99, 101] : List UInt8)), (5, .int .i64 (IntKind.wrap .i64 (s269 + 1)))]) (H2 := [.box [lsv (encI .u8) 1 x0.I_, lsv (encI .u8) 1 x0.F_, .int .i64 x0.W_, .int .i64 x0.C_]]) (by kernel_rfl) ?_
          refine RJ.end (by kernel_rfl) ?_
          obtain rfl := Option.some.inj h449
          exact PJ.loopNext [1, 2, 3, 4, 5] (by kernel_rfl) (by kernel_rfl)
      · have h414 := condF hb412 hs410
        refine K.condF (by kernel_rfl) ?_
        refine K.exit 0 (by kernel_rfl) ?_
        refine PJ.passExit ?_
        obtain rfl := Option.some.inj h414
        refine PJ.loopOut (fun e => nomatch e) (fun he481 => ?_)
        have h480 := congrArg some he481
        refine PJ.blockOut ?_
        obtain rfl := Option.some.inj h480
        exact PJ.cutXl [1, 2, 3] (by kernel_rfl) (by kernel_rfl)
    · subst hs
      have h268 := joinX_inl h267
      refine K.seq (by kernel_rfl) ?_
      refine K.region (by kernel_rfl) ?_
      refine RJ.seg 1 [1, 2, 3, 57] (L2 := [(1, .ptr 0 0), (2, .bool false), (3, .bool y1), (57, .agg [lsv (encI .u8) 1 x0.I_, lsv (encI .u8) 1 x0.F_, .int .i64 x0.W_, .int .i64 x0.C_])]) (H2 := [.box [lsv (encI .u8) 1 x0.I_, lsv (encI .u8) 1 x0.F_, .int .i64 x0.W_, .int .i64 x0.C_]]) (by kernel_rfl) ?_
      obtain ⟨y482, hy483, h484⟩ := bindS h268
      refine RJ.call0 (d := (some 58)) (f := 18) (args := [.agg [lsv (encI .u8) 1 x0.I_, lsv (encI .u8) 1 x0.F_, .int .i64 x0.W_, .int .i64 x0.C_], .int .u8 110]) (v := .tup [lsv (encI .u8) 1 y482.1, .bool y482.2]) (tr2 := []) (by kernel_rfl) (by kernel_rfl) (.cons (Le.refl _) (.cons (Le.refl _) .nil)) (oper_Operand_ok hy483) (by kernel_rfl) ?_
      refine RJ.seg 5 [1, 2, 3, 8, 9] (L2 := [(1, .ptr 0 0), (2, .bool false), (3, .bool y1), (8, lsv (encI .u8) 1 y482.1), (9, .bool y482.2)]) (H2 := [.box [lsv (encI .u8) 1 x0.I_, lsv (encI .u8) 1 x0.F_, .int .i64 x0.W_, .int .i64 x0.C_]]) (by kernel_rfl) ?_
      refine RJ.end (by kernel_rfl) ?_
      refine PJ.next ?_
      refine K.seq (by kernel_rfl) ?_
      refine K.region (by kernel_rfl) ?_
      refine RJ.seg 1 [1, 2, 3, 8, 9, 62] (L2 := [(1, .ptr 0 0), (2, .bool false), (3, .bool y1), (8, lsv (encI .u8) 1 y482.1), (9, .bool y482.2), (62, .agg [lsv (encI .u8) 1 x0.I_, lsv (encI .u8) 1 x0.F_, .int .i64 x0.W_, .int .i64 x0.C_])]) (H2 := [.box [lsv (encI .u8) 1 x0.I_, lsv (encI .u8) 1 x0.F_, .int .i64 x0.W_, .int .i64 x0.C_]]) (by kernel_rfl) ?_
      obtain ⟨y485, hy486, h487⟩ := bindS h484
      refine RJ.call0 (d := (some 63)) (f := 18) (args := [.agg [lsv (encI .u8) 1 x0.I_, lsv (encI .u8) 1 x0.F_, .int .i64 x0.W_, .int .i64 x0.C_], .int .u8 105]) (v := .tup [lsv (encI .u8) 1 y485.1, .bool y485.2]) (tr2 := []) (by kernel_rfl) (by kernel_rfl) (.cons (Le.refl _) (.cons (Le.refl _) .nil)) (oper_Operand_ok hy486) (by kernel_rfl) ?_
      refine RJ.seg 5 [1, 2, 3, 8, 9, 10] (L2 := [(1, .ptr 0 0), (2, .bool false), (3, .bool y1), (8, lsv (encI .u8) 1 y482.1), (9, .bool y482.2), (10, lsv (encI .u8) 1 y485.1)]) (H2 := [.box [lsv (encI .u8) 1 x0.I_, lsv (encI .u8) 1 x0.F_, .int .i64 x0.W_, .int .i64 x0.C_]]) (by kernel_rfl) ?_
      refine RJ.end (by kernel_rfl) ?_
      refine PJ.next ?_
      refine K.seq (by kernel_rfl) ?_
      refine K.region (by kernel_rfl) ?_
      refine RJ.seg 1 [1, 2, 3, 8, 9, 10, 67] (L2 := [(1, .ptr 0 0), (2, .bool false), (3, .bool y1), (8, lsv (encI .u8) 1 y482.1), (9, .bool y482.2), (10, lsv (encI .u8) 1 y485.1), (67, .agg [lsv (encI .u8) 1 x0.I_, lsv (encI .u8) 1 x0.F_, .int .i64 x0.W_, .int .i64 x0.C_])]) (H2 := [.box [lsv (encI .u8) 1 x0.I_, lsv (encI .u8) 1 x0.F_, .int .i64 x0.W_, .int .i64 x0.C_]]) (by kernel_rfl) ?_
      obtain ⟨y488, hy489, h490⟩ := bindS h487
      refine RJ.call0 (d := (some 68)) (f := 18) (args := [.agg [lsv (encI .u8) 1 x0.I_, lsv (encI .u8) 1 x0.F_, .int .i64 x0.W_, .int .i64 x0.C_], .int .u8 116]) (v := .tup [lsv (encI .u8) 1 y488.1, .bool y488.2]) (tr2 := []) (by kernel_rfl) (by kernel_rfl) (.cons (Le.refl _) (.cons (Le.refl _) .nil)) (oper_Operand_ok hy489) (by kernel_rfl) ?_
      refine RJ.seg 5 [1, 2, 3, 8, 9, 10, 12] (L2 := [(1, .ptr 0 0), (2, .bool false), (3, .bool y1), (8, lsv (encI .u8) 1 y482.1), (9, .bool y482.2), (10, lsv (encI .u8) 1 y485.1), (12, lsv (encI .u8) 1 y488.1)]) (H2 := [.box [lsv (encI .u8) 1 x0.I_, lsv (encI .u8) 1 x0.F_, .int .i64 x0.W_, .int .i64 x0.C_]]) (by kernel_rfl) ?_
      refine RJ.end (by kernel_rfl) ?_
      refine PJ.next ?_
      obtain ⟨s515, hy517, h519⟩ := bindS h490
      refine K.cutN (by kernel_rfl) (fun (s515 : Bool) => ([(2, .bool s515)], [])) s515 ?_ ?_
      · refine K.region (by kernel_rfl) ?_
        refine RJ.seg 2 [1, 2, 8, 9, 10, 12, 72] (L2 := [(1, .ptr 0 0), (2, .bool false), (8, lsv (encI .u8) 1 y482.1), (9, .bool y482.2), (10, lsv (encI .u8) 1 y485.1), (12, lsv (encI .u8) 1 y488.1), (72, .bool y1)]) (H2 := [.box [lsv (encI .u8) 1 x0.I_, lsv (encI .u8) 1 x0.F_, .int .i64 x0.W_, .int .i64 x0.C_]]) (by kernel_rfl) ?_
        refine RJ.caseB 72 (b := y1) (by kernel_rfl) (fun hb520 => ?_) (fun hb520 => ?_)
        · have h521 := condT hb520 hy517
          refine RJ.seg 5 [1, 2, 8, 9, 10, 72, 73, 77] (L2 := [(1, .ptr 0 0), (2, .bool false), (8, lsv (encI .u8) 1 y482.1), (9, .bool y482.2), (10, lsv (encI .u8) 1 y485.1), (72, .bool true), (73, .bool y482.2), (77, .bool ((decide ((y488.1.length : Int) = 0))))]) (H2 := [.box [lsv (encI .u8) 1 x0.I_, lsv (encI .u8) 1 x0.F_, .int .i64 x0.W_, .int .i64 x0.C_]]) (by kernel_rfl) ?_
          refine RJ.caseB 77 (b := (decide ((y488.1.length : Int) = 0))) (by kernel_rfl) (fun hb523 => ?_) (fun hb523 => ?_)
          · have h524 := condT hb523 h521
            refine RJ.seg 7 [2, 8, 9, 10, 84] (L2 := [(2, .bool false), (8, lsv (encI .u8) 1 y482.1), (9, .bool y482.2), (10, lsv (encI .u8) 1 y485.1), (84, .bool ((y482.2 == (decide (x0.W_ = 0)))))]) (H2 := [.box [lsv (encI .u8) 1 x0.I_, lsv (encI .u8) 1 x0.F_, .int .i64 x0.W_, .int .i64 x0.C_]]) (by kernel_rfl) ?_
            refine RJ.caseB 84 (b := (y482.2 == (decide (x0.W_ = 0)))) (by kernel_rfl) (fun hb526 => ?_) (fun hb526 => ?_)
            · have h527 := condT hb526 h524
              refine RJ.seg 3 [2, 8, 10, 84, 87] (L2 := [(2, .bool false), (8, lsv (encI .u8) 1 y482.1), (10, lsv (encI .u8) 1 y485.1), (84, .bool true), (87, .bool (!y482.2))]) (H2 := [.box [lsv (encI .u8) 1 x0.I_, lsv (encI .u8) 1 x0.F_, .int .i64 x0.W_, .int .i64 x0.C_]]) (by kernel_rfl) ?_
              refine RJ.caseB 87 (b := (!y482.2)) (by kernel_rfl) (fun hb529 => ?_) (fun hb529 => ?_)
              · have h530 := condT hb529 h527
                refine RJ.seg 6 [2] (L2 := [(2, .bool true)]) (H2 := [.box [lsv (encI .u8) 1 x0.I_, lsv (encI .u8) 1 x0.F_, .int .i64 x0.W_, .int .i64 x0.C_]]) (by kernel_rfl) ?_
                refine RJ.end (by kernel_rfl) ?_
                obtain rfl := Option.some.inj h530
                refine PJ.wk (Wk.sel (L2 := [(2, .bool true)]) (H2 := []) 0 (by rw [hFH]; rfl) hFD [] (by kernel_rfl) (by kernel_rfl) (by decide) (by kernel_rfl) (by kernel_rfl) (by kernel_rfl) (by kernel_rfl)) ?_
                exact PJ.cutN [2] (by kernel_rfl) (by kernel_rfl)
              · have h531 := condF hb529 h527
                refine RJ.seg 2 [2, 84, 87, 88, 89] (L2 := [(2, .bool false), (84, .bool true), (87, .bool false), (88, lsv (encI .u8) 1 y482.1), (89, lsv (encI .u8) 1 y485.1)]) (H2 := [.box [lsv (encI .u8) 1 x0.I_, lsv (encI .u8) 1 x0.F_, .int .i64 x0.W_, .int .i64 x0.C_]]) (by kernel_rfl) ?_
                obtain ⟨y532, hy533, h534⟩ := bindS h531
                refine RJ.call0 (d := (some 90)) (f := 20) (args := [lsv (encI .u8) 1 y482.1, lsv (encI .u8) 1 y485.1]) (v := .bool y532) (tr2 := []) (by kernel_rfl) (by kernel_rfl) (.cons (Le.refl _) (.cons (Le.refl _) .nil)) (exergueref01_Row_ok hy533) (by kernel_rfl) ?_
                refine RJ.seg 3 [2] (L2 := [(2, .bool y532)]) (H2 := [.box [lsv (encI .u8) 1 x0.I_, lsv (encI .u8) 1 x0.F_, .int .i64 x0.W_, .int .i64 x0.C_]]) (by kernel_rfl) ?_
                refine RJ.end (by kernel_rfl) ?_
                obtain rfl := Option.some.inj h534
                refine PJ.wk (Wk.sel (L2 := [(2, .bool y532)]) (H2 := []) 0 (by rw [hFH]; rfl) hFD [] (by kernel_rfl) (by kernel_rfl) (by decide) (by kernel_rfl) (by kernel_rfl) (by kernel_rfl) (by kernel_rfl)) ?_
                exact PJ.cutN [2] (by kernel_rfl) (by kernel_rfl)
            · have h528 := condF hb526 h524
              refine RJ.seg 9 [2] (L2 := [(2, .bool false)]) (H2 := [.box [lsv (encI .u8) 1 x0.I_, lsv (encI .u8) 1 x0.F_, .int .i64 x0.W_, .int .i64 x0.C_]]) (by kernel_rfl) ?_
              refine RJ.end (by kernel_rfl) ?_
              obtain rfl := Option.some.inj h528
              refine PJ.wk (Wk.sel (L2 := [(2, .bool false)]) (H2 := []) 0 (by rw [hFH]; rfl) hFD [] (by kernel_rfl) (by kernel_rfl) (by decide) (by kernel_rfl) (by kernel_rfl) (by kernel_rfl) (by kernel_rfl)) ?_
              exact PJ.cutN [2] (by kernel_rfl) (by kernel_rfl)
          · have h525 := condF hb523 h521
            refine RJ.seg 7 [2, 8, 9, 10, 84] (L2 := [(2, .bool false), (8, lsv (encI .u8) 1 y482.1), (9, .bool y482.2), (10, lsv (encI .u8) 1 y485.1), (84, .bool (y482.2 == false))]) (H2 := [.box [lsv (encI .u8) 1 x0.I_, lsv (encI .u8) 1 x0.F_, .int .i64 x0.W_, .int .i64 x0.C_]]) (by kernel_rfl) ?_
            refine RJ.caseB 84 (b := (y482.2 == false)) (by kernel_rfl) (fun hb535 => ?_) (fun hb535 => ?_)
            · have h536 := condT hb535 h525
              refine RJ.seg 3 [2, 8, 10, 84, 87] (L2 := [(2, .bool false), (8, lsv (encI .u8) 1 y482.1), (10, lsv (encI .u8) 1 y485.1), (84, .bool true), (87, .bool (!y482.2))]) (H2 := [.box [lsv (encI .u8) 1 x0.I_, lsv (encI .u8) 1 x0.F_, .int .i64 x0.W_, .int .i64 x0.C_]]) (by kernel_rfl) ?_
              refine RJ.caseB 87 (b := (!y482.2)) (by kernel_rfl) (fun hb538 => ?_) (fun hb538 => ?_)
              · have h539 := condT hb538 h536
                refine RJ.seg 6 [2] (L2 := [(2, .bool true)]) (H2 := [.box [lsv (encI .u8) 1 x0.I_, lsv (encI .u8) 1 x0.F_, .int .i64 x0.W_, .int .i64 x0.C_]]) (by kernel_rfl) ?_
                refine RJ.end (by kernel_rfl) ?_
                obtain rfl := Option.some.inj h539
                refine PJ.wk (Wk.sel (L2 := [(2, .bool true)]) (H2 := []) 0 (by rw [hFH]; rfl) hFD [] (by kernel_rfl) (by kernel_rfl) (by decide) (by kernel_rfl) (by kernel_rfl) (by kernel_rfl) (by kernel_rfl)) ?_
                exact PJ.cutN [2] (by kernel_rfl) (by kernel_rfl)
              · have h540 := condF hb538 h536
                refine RJ.seg 2 [2, 84, 87, 88, 89] (L2 := [(2, .bool false), (84, .bool true), (87, .bool false), (88, lsv (encI .u8) 1 y482.1), (89, lsv (encI .u8) 1 y485.1)]) (H2 := [.box [lsv (encI .u8) 1 x0.I_, lsv (encI .u8) 1 x0.F_, .int .i64 x0.W_, .int .i64 x0.C_]]) (by kernel_rfl) ?_
                obtain ⟨y541, hy542, h543⟩ := bindS h540
                refine RJ.call0 (d := (some 90)) (f := 20) (args := [lsv (encI .u8) 1 y482.1, lsv (encI .u8) 1 y485.1]) (v := .bool y541) (tr2 := []) (by kernel_rfl) (by kernel_rfl) (.cons (Le.refl _) (.cons (Le.refl _) .nil)) (exergueref01_Row_ok hy542) (by kernel_rfl) ?_
                refine RJ.seg 3 [2] (L2 := [(2, .bool y541)]) (H2 := [.box [lsv (encI .u8) 1 x0.I_, lsv (encI .u8) 1 x0.F_, .int .i64 x0.W_, .int .i64 x0.C_]]) (by kernel_rfl) ?_
                refine RJ.end (by kernel_rfl) ?_
                obtain rfl := Option.some.inj h543
                refine PJ.wk (Wk.sel (L2 := [(2, .bool y541)]) (H2 := []) 0 (by rw [hFH]; rfl) hFD [] (by kernel_rfl) (by kernel_rfl) (by decide) (by kernel_rfl) (by kernel_rfl) (by kernel_rfl) (by kernel_rfl)) ?_
                exact PJ.cutN [2] (by kernel_rfl) (by kernel_rfl)
            · have h537 := condF hb535 h525
              refine RJ.seg 9 [2] (L2 := [(2, .bool false)]) (H2 := [.box [lsv (encI .u8) 1 x0.I_, lsv (encI .u8) 1 x0.F_, .int .i64 x0.W_, .int .i64 x0.C_]]) (by kernel_rfl) ?_
              refine RJ.end (by kernel_rfl) ?_
              obtain rfl := Option.some.inj h537
              refine PJ.wk (Wk.sel (L2 := [(2, .bool false)]) (H2 := []) 0 (by rw [hFH]; rfl) hFD [] (by kernel_rfl) (by kernel_rfl) (by decide) (by kernel_rfl) (by kernel_rfl) (by kernel_rfl) (by kernel_rfl)) ?_
              exact PJ.cutN [2] (by kernel_rfl) (by kernel_rfl)
        · have h522 := condF hb520 hy517
          refine RJ.seg 21 [2] (L2 := [(2, .bool false)]) (H2 := [.box [lsv (encI .u8) 1 x0.I_, lsv (encI .u8) 1 x0.F_, .int .i64 x0.W_, .int .i64 x0.C_]]) (by kernel_rfl) ?_
          refine RJ.end (by kernel_rfl) ?_
          obtain rfl := Option.some.inj h522
          refine PJ.wk (Wk.sel (L2 := [(2, .bool false)]) (H2 := []) 0 (by rw [hFH]; rfl) hFD [] (by kernel_rfl) (by kernel_rfl) (by decide) (by kernel_rfl) (by kernel_rfl) (by kernel_rfl) (by kernel_rfl)) ?_
          exact PJ.cutN [2] (by kernel_rfl) (by kernel_rfl)
      · refine K.ret (by kernel_rfl) ?_
        obtain rfl := Option.some.inj h519
        exact K.ret0 (.inr rfl) hFn hFH hFD (by kernel_rfl) (by kernel_rfl) (by kernel_rfl)

structure St50 where
  L_ : List Int
  A_ : Int
  B_ : Int
  C_ : Int
  deriving Inhabited, DecidableEq
def encSt50 (x : St50) : List SV := [lsv (encI .u8) 1 x.L_, .int .i64 x.A_, .int .i64 x.B_, .int .i64 x.C_]
theorem encSt50_len (x : St50) : (encSt50 x).length = 4 := rfl

end Go.Proofs.Ytddkgejgocahjaa
