/-
  What the functions of this program come to, as functions of natives, each with the proof that it does. No conditions.
-/
import Derived.Test.YtcldeecdhdcjdaaDoorProg
import Derived.Test.YtcldeecdhdcjdaaDoorSyV
import Derived.Test.YtcldeecdhdcjdaaDoorGa
namespace Go.Proofs.YtcldeecdhdcjdaaDoor
open Go Go.Sy Go.RowKit
set_option linter.unusedVariables false
set_option linter.unusedSimpArgs false
set_option maxRecDepth 100000

def exergueref05_Right (x0 : St23) : Option (Bool) :=
  (Option.bind (loopN (fun (s45 : Int) => (bif (decide (s45 < (x0.D_.length : Int))) then (bif inR s45 x0.D_.length then (bif (decide ((nth x0.D_ s45) > 9)) then (some (.inr (.inr false))) else (some (.inl (IntKind.wrap .i64 (s45 + 1))))) else none) else (some (.inr (.inl ()))))) big 0) (joinX fun (s40 : Unit) => (bif (decide ((x0.D_.length : Int) = 0)) then (some (decide (x0.E_ = 0))) else (Option.bind (bif (decide ((x0.D_.length : Int) ≤ 1000)) then (bif inR 0 x0.D_.length then (bif (decide ((nth x0.D_ 0) > 0)) then (bif inR ((IntKind.wrap .i64 ((x0.D_.length : Int) - 1))) x0.D_.length then (bif (decide (((nth x0.D_ ((IntKind.wrap .i64 ((x0.D_.length : Int) - 1))))) > 0)) then (bif (decide (x0.E_ ≥ (-1000))) then (some (decide (x0.E_ ≤ 1000))) else (some false)) else (some false)) else none) else (some false)) else none) else (some false)) fun (s101 : Bool) => (some s101)))))
theorem exergueref05_Right_ok {x0 : St23} {r : Bool} (h : exergueref05_Right x0 = some r) : SC Tryd.prog 14 [.agg [.bool x0.Neg_, lsv (encI .u8) 1 x0.D_, .int .i64 x0.E_]] [] (.bool r) [] := by
  refine K.fn (fn := Tryd.f14) (by kernel_rfl) (by kernel_rfl) (by kernel_rfl) (by kernel_rfl) (by kernel_rfl) (fun F hFn hFH hFD => ?_)
  unfold exergueref05_Right at h
  refine K.seq (by kernel_rfl) ?_
  refine K.region (by kernel_rfl) ?_
  refine RJ.seg 2 [1, 2] (L2 := [(1, .ptr 0 0), (2, .bool false)]) (H2 := [.box [.bool x0.Neg_, lsv (encI .u8) 1 x0.D_, .int .i64 x0.E_]]) (by kernel_rfl) ?_
  refine RJ.end (by kernel_rfl) ?_
  refine PJ.next ?_
  refine K.seq (by kernel_rfl) ?_
  refine K.region (by kernel_rfl) ?_
  refine RJ.seg 4 [1, 2, 3] (L2 := [(1, .ptr 0 0), (2, .bool false), (3, .int .i64 (x0.D_.length : Int))]) (H2 := [.box [.bool x0.Neg_, lsv (encI .u8) 1 x0.D_, .int .i64 x0.E_]]) (by kernel_rfl) ?_
  refine RJ.end (by kernel_rfl) ?_
  refine PJ.next ?_
  obtain ⟨y41, hy42, h43⟩ := bindS h
  refine K.cutX (by kernel_rfl) (fun (s40 : Unit) => ([(1, .ptr 0 0), (2, .bool false), (3, .int .i64 (x0.D_.length : Int))], [.box [.bool x0.Neg_, lsv (encI .u8) 1 x0.D_, .int .i64 x0.E_]])) y41 ?_ (fun s40 hs => ?_)
  · refine K.seq (by kernel_rfl) ?_
    refine K.region (by kernel_rfl) ?_
    refine RJ.seg 1 [1, 2, 3, 4] (L2 := [(1, .ptr 0 0), (2, .bool false), (3, .int .i64 (x0.D_.length : Int)), (4, .int .i64 0)]) (H2 := [.box [.bool x0.Neg_, lsv (encI .u8) 1 x0.D_, .int .i64 x0.E_]]) (by kernel_rfl) ?_
    refine RJ.end (by kernel_rfl) ?_
    refine PJ.next ?_
    refine K.block 0 (by kernel_rfl) ?_
    refine K.loop (by kernel_rfl) (fun (s45 : Int) => ([(1, .ptr 0 0), (2, .bool false), (3, .int .i64 (x0.D_.length : Int)), (4, .int .i64 s45)], [.box [.bool x0.Neg_, lsv (encI .u8) 1 x0.D_, .int .i64 x0.E_]])) hy42 [1, 2, 3, 4] (by kernel_rfl) (by kernel_rfl) (fun s45 x71 hs70 => ?_)
    refine K.seq (by kernel_rfl) ?_
    refine K.seq (by kernel_rfl) ?_
    refine K.region (by kernel_rfl) ?_
    refine RJ.seg 3 [1, 2, 3, 4, 10] (L2 := [(1, .ptr 0 0), (2, .bool false), (3, .int .i64 (x0.D_.length : Int)), (4, .int .i64 s45), (10, .bool ((decide (s45 < (x0.D_.length : Int)))))]) (H2 := [.box [.bool x0.Neg_, lsv (encI .u8) 1 x0.D_, .int .i64 x0.E_]]) (by kernel_rfl) ?_
    refine RJ.end (by kernel_rfl) ?_
    refine PJ.next ?_
    refine J.caseB 10 (b := (decide (s45 < (x0.D_.length : Int)))) (by kernel_rfl) (fun hb72 => ?_) (fun hb72 => ?_)
    · have h73 := condT hb72 hs70
      refine K.condT (by kernel_rfl) ?_
      refine K.skip (by kernel_rfl) ?_
      refine PJ.next ?_
      refine K.seq (by kernel_rfl) ?_
      refine K.block 1 (by kernel_rfl) ?_
      refine K.seq (by kernel_rfl) ?_
      refine K.region (by kernel_rfl) ?_
      refine RJ.seg 3 [1, 2, 3, 4, 14, 15] (L2 := [(1, .ptr 0 0), (2, .bool false), (3, .int .i64 (x0.D_.length : Int)), (4, .int .i64 s45), (14, lsv (encI .u8) 1 x0.D_), (15, .int .i64 s45)]) (H2 := [.box [.bool x0.Neg_, lsv (encI .u8) 1 x0.D_, .int .i64 x0.E_]]) (by kernel_rfl) ?_
      obtain ⟨hm, h75⟩ := asrt h73
      refine RJ.rel (d := (some 16)) (ef := ⟨.ep (((x0.D_.flatMap (encI .u8)).drop ((s45 : Int).toNat * 1)).take 1), [], []⟩) (ef' := ⟨.ep ((encI .u8) (nth x0.D_ s45)), [], []⟩) (c := inR s45 x0.D_.length) (tr2 := []) (H2 := [.box [.bool x0.Neg_, lsv (encI .u8) 1 x0.D_, .int .i64 x0.E_]]) (by kernel_rfl) hm (fun hc => N.idx (encI_len .u8) hc) (by kernel_rfl) ?_
      refine RJ.seg 2 [1, 2, 3, 4, 18] (L2 := [(1, .ptr 0 0), (2, .bool false), (3, .int .i64 (x0.D_.length : Int)), (4, .int .i64 s45), (18, .bool ((decide ((nth x0.D_ s45) > 9))))]) (H2 := [.box [.bool x0.Neg_, lsv (encI .u8) 1 x0.D_, .int .i64 x0.E_]]) (by kernel_rfl) ?_
      refine RJ.end (by kernel_rfl) ?_
      refine PJ.next ?_
      refine J.caseB 18 (b := (decide ((nth x0.D_ s45) > 9))) (by kernel_rfl) (fun hb76 => ?_) (fun hb76 => ?_)
      · have h77 := condT hb76 h75
        refine K.condT (by kernel_rfl) ?_
        refine K.seq (by kernel_rfl) ?_
        refine K.region (by kernel_rfl) ?_
        refine RJ.seg 1 [1, 2, 3, 4] (L2 := [(1, .ptr 0 0), (2, .bool false), (3, .int .i64 (x0.D_.length : Int)), (4, .int .i64 s45)]) (H2 := [.box [.bool x0.Neg_, lsv (encI .u8) 1 x0.D_, .int .i64 x0.E_]]) (by kernel_rfl) ?_
        refine RJ.end (by kernel_rfl) ?_
        refine PJ.next ?_
        refine K.ret (by kernel_rfl) ?_
        refine PJ.blockRet ?_
        refine PJ.passRet ?_
        obtain rfl := Option.some.inj h77
        refine PJ.loopOut (fun e => nomatch e) (fun he81 => ?_)
        have h79 := congrArg some he81
        refine PJ.blockRet ?_
        obtain rfl := Option.some.inj h79
        have h80 := joinX_inr h43
        refine PJ.cutXr (fun e => nomatch e) ?_
        obtain rfl := Option.some.inj h80
        exact K.ret0 (.inr rfl) hFn hFH hFD (by kernel_rfl) (by kernel_rfl) (by kernel_rfl)
      · have h78 := condF hb76 h75
        refine K.condF (by kernel_rfl) ?_
        refine K.skip (by kernel_rfl) ?_
        refine PJ.blockNormal ?_
        refine PJ.next ?_
        refine K.region (by kernel_rfl) ?_
        refine RJ.seg 3 [1, 2, 3, 4] (L2 := [(1, .ptr 0 0), (2, .bool false), (3, .int .i64 (x0.D_.length : Int)), (4, .int .i64 (IntKind.wrap .i64 (s45 + 1)))]) (H2 := [.box [.bool x0.Neg_, lsv (encI .u8) 1 x0.D_, .int .i64 x0.E_]]) (by kernel_rfl) ?_
        refine RJ.end (by kernel_rfl) ?_
        obtain rfl := Option.some.inj h78
        exact PJ.loopNext [1, 2, 3, 4] (by kernel_rfl) (by kernel_rfl)
    · have h74 := condF hb72 hs70
      refine K.condF (by kernel_rfl) ?_
      refine K.exit 0 (by kernel_rfl) ?_
      refine PJ.passExit ?_
      obtain rfl := Option.some.inj h74
      refine PJ.loopOut (fun e => nomatch e) (fun he83 => ?_)
      have h82 := congrArg some he83
      refine PJ.blockOut ?_
      obtain rfl := Option.some.inj h82
      exact PJ.cutXl [1, 2, 3] (by kernel_rfl) (by kernel_rfl)
  · subst hs
    have h44 := joinX_inl h43
    refine K.seq (by kernel_rfl) ?_
    refine K.seq (by kernel_rfl) ?_
    refine K.region (by kernel_rfl) ?_
    refine RJ.seg 2 [1, 2, 3, 20] (L2 := [(1, .ptr 0 0), (2, .bool false), (3, .int .i64 (x0.D_.length : Int)), (20, .bool ((decide ((x0.D_.length : Int) = 0))))]) (H2 := [.box [.bool x0.Neg_, lsv (encI .u8) 1 x0.D_, .int .i64 x0.E_]]) (by kernel_rfl) ?_
    refine RJ.end (by kernel_rfl) ?_
    refine PJ.next ?_
    refine J.caseB 20 (b := (decide ((x0.D_.length : Int) = 0))) (by kernel_rfl) (fun hb84 => ?_) (fun hb84 => ?_)
    · have h85 := condT hb84 h44
      refine K.condT (by kernel_rfl) ?_
      refine K.seq (by kernel_rfl) ?_
      refine K.region (by kernel_rfl) ?_
      refine RJ.seg 4 [1, 2, 3] (L2 := [(1, .ptr 0 0), (2, .bool (decide (x0.E_ = 0))), (3, .int .i64 (x0.D_.length : Int))]) (H2 := [.box [.bool x0.Neg_, lsv (encI .u8) 1 x0.D_, .int .i64 x0.E_]]) (by kernel_rfl) ?_
      refine RJ.end (by kernel_rfl) ?_
      refine PJ.next ?_
      refine K.ret (by kernel_rfl) ?_
      refine PJ.passRet ?_
      obtain rfl := Option.some.inj h85
      exact K.ret0 (.inr rfl) hFn hFH hFD (by kernel_rfl) (by kernel_rfl) (by kernel_rfl)
    · have h86 := condF hb84 h44
      refine K.condF (by kernel_rfl) ?_
      refine K.skip (by kernel_rfl) ?_
      refine PJ.next ?_
      obtain ⟨s101, hy103, h105⟩ := bindS h86
      refine K.cutN (by kernel_rfl) (fun (s101 : Bool) => ([(2, .bool s101)], [])) s101 ?_ ?_
      · refine K.region (by kernel_rfl) ?_
        refine RJ.seg 3 [1, 2, 3, 26] (L2 := [(1, .ptr 0 0), (2, .bool false), (3, .int .i64 (x0.D_.length : Int)), (26, .bool ((decide ((x0.D_.length : Int) ≤ 1000))))]) (H2 := [.box [.bool x0.Neg_, lsv (encI .u8) 1 x0.D_, .int .i64 x0.E_]]) (by kernel_rfl) ?_
        refine RJ.caseB 26 (b := (decide ((x0.D_.length : Int) ≤ 1000))) (by kernel_rfl) (fun hb106 => ?_) (fun hb106 => ?_)
        · have h107 := condT hb106 hy103
          refine RJ.seg 2 [1, 2, 3, 26, 28] (L2 := [(1, .ptr 0 0), (2, .bool false), (3, .int .i64 (x0.D_.length : Int)), (26, .bool true), (28, lsv (encI .u8) 1 x0.D_)]) (H2 := [.box [.bool x0.Neg_, lsv (encI .u8) 1 x0.D_, .int .i64 x0.E_]]) (by kernel_rfl) ?_
          obtain ⟨hm, h109⟩ := asrt h107
          refine RJ.rel (d := (some 29)) (ef := ⟨.ep (((x0.D_.flatMap (encI .u8)).drop ((0 : Int).toNat * 1)).take 1), [], []⟩) (ef' := ⟨.ep ((encI .u8) (nth x0.D_ 0)), [], []⟩) (c := inR 0 x0.D_.length) (tr2 := []) (H2 := [.box [.bool x0.Neg_, lsv (encI .u8) 1 x0.D_, .int .i64 x0.E_]]) (by kernel_rfl) hm (fun hc => N.idx (encI_len .u8) hc) (by kernel_rfl) ?_
          refine RJ.seg 4 [1, 2, 3, 33] (L2 := [(1, .ptr 0 0), (2, .bool false), (3, .int .i64 (x0.D_.length : Int)), (33, .bool ((decide ((nth x0.D_ 0) > 0))))]) (H2 := [.box [.bool x0.Neg_, lsv (encI .u8) 1 x0.D_, .int .i64 x0.E_]]) (by kernel_rfl) ?_
          refine RJ.caseB 33 (b := (decide ((nth x0.D_ 0) > 0))) (by kernel_rfl) (fun hb110 => ?_) (fun hb110 => ?_)
          · have h111 := condT hb110 h109
            refine RJ.seg 4 [1, 2, 33, 35, 37] (L2 := [(1, .ptr 0 0), (2, .bool false), (33, .bool true), (35, lsv (encI .u8) 1 x0.D_), (37, .int .i64 ((IntKind.wrap .i64 ((x0.D_.length : Int) - 1))))]) (H2 := [.box [.bool x0.Neg_, lsv (encI .u8) 1 x0.D_, .int .i64 x0.E_]]) (by kernel_rfl) ?_
            obtain ⟨hm, h113⟩ := asrt h111
            refine RJ.rel (d := (some 38)) (ef := ⟨.ep (((x0.D_.flatMap (encI .u8)).drop (((IntKind.wrap .i64 ((x0.D_.length : Int) - 1)) : Int).toNat * 1)).take 1), [], []⟩) (ef' := ⟨.ep ((encI .u8) (nth x0.D_ ((IntKind.wrap .i64 ((x0.D_.length : Int) - 1))))), [], []⟩) (c := inR ((IntKind.wrap .i64 ((x0.D_.length : Int) - 1))) x0.D_.length) (tr2 := []) (H2 := [.box [.bool x0.Neg_, lsv (encI .u8) 1 x0.D_, .int .i64 x0.E_]]) (by kernel_rfl) hm (fun hc => N.idx (encI_len .u8) hc) (by kernel_rfl) ?_
            refine RJ.seg 4 [1, 2, 42] (L2 := [(1, .ptr 0 0), (2, .bool false), (42, .bool ((decide (((nth x0.D_ ((IntKind.wrap .i64 ((x0.D_.length : Int) - 1))))) > 0))))]) (H2 := [.box [.bool x0.Neg_, lsv (encI .u8) 1 x0.D_, .int .i64 x0.E_]]) (by kernel_rfl) ?_
            refine RJ.caseB 42 (b := (decide (((nth x0.D_ ((IntKind.wrap .i64 ((x0.D_.length : Int) - 1))))) > 0))) (by kernel_rfl) (fun hb114 => ?_) (fun hb114 => ?_)
            · have h115 := condT hb114 h113
              refine RJ.seg 5 [1, 2, 47] (L2 := [(1, .ptr 0 0), (2, .bool false), (47, .bool ((decide (x0.E_ ≥ (-1000)))))]) (H2 := [.box [.bool x0.Neg_, lsv (encI .u8) 1 x0.D_, .int .i64 x0.E_]]) (by kernel_rfl) ?_
              refine RJ.caseB 47 (b := (decide (x0.E_ ≥ (-1000)))) (by kernel_rfl) (fun hb117 => ?_) (fun hb117 => ?_)
              · have h118 := condT hb117 h115
                refine RJ.seg 5 [2] (L2 := [(2, .bool (decide (x0.E_ ≤ 1000)))]) (H2 := [.box [.bool x0.Neg_, lsv (encI .u8) 1 x0.D_, .int .i64 x0.E_]]) (by kernel_rfl) ?_
                refine RJ.end (by kernel_rfl) ?_
                obtain rfl := Option.some.inj h118
                refine PJ.wk (Wk.sel (L2 := [(2, .bool (decide (x0.E_ ≤ 1000)))]) (H2 := []) 0 (by rw [hFH]; rfl) hFD [] (by kernel_rfl) (by kernel_rfl) (by decide) (by kernel_rfl) (by kernel_rfl) (by kernel_rfl) (by kernel_rfl)) ?_
                exact PJ.cutN [2] (by kernel_rfl) (by kernel_rfl)
              · have h119 := condF hb117 h115
                refine RJ.seg 5 [2] (L2 := [(2, .bool false)]) (H2 := [.box [.bool x0.Neg_, lsv (encI .u8) 1 x0.D_, .int .i64 x0.E_]]) (by kernel_rfl) ?_
                refine RJ.end (by kernel_rfl) ?_
                obtain rfl := Option.some.inj h119
                refine PJ.wk (Wk.sel (L2 := [(2, .bool false)]) (H2 := []) 0 (by rw [hFH]; rfl) hFD [] (by kernel_rfl) (by kernel_rfl) (by decide) (by kernel_rfl) (by kernel_rfl) (by kernel_rfl) (by kernel_rfl)) ?_
                exact PJ.cutN [2] (by kernel_rfl) (by kernel_rfl)
            · have h116 := condF hb114 h113
              refine RJ.seg 10 [2] (L2 := [(2, .bool false)]) (H2 := [.box [.bool x0.Neg_, lsv (encI .u8) 1 x0.D_, .int .i64 x0.E_]]) (by kernel_rfl) ?_
              refine RJ.end (by kernel_rfl) ?_
              obtain rfl := Option.some.inj h116
              refine PJ.wk (Wk.sel (L2 := [(2, .bool false)]) (H2 := []) 0 (by rw [hFH]; rfl) hFD [] (by kernel_rfl) (by kernel_rfl) (by decide) (by kernel_rfl) (by kernel_rfl) (by kernel_rfl) (by kernel_rfl)) ?_
              exact PJ.cutN [2] (by kernel_rfl) (by kernel_rfl)
          · have h112 := condF hb110 h109
            refine RJ.seg 19 [2] (L2 := [(2, .bool false)]) (H2 := [.box [.bool x0.Neg_, lsv (encI .u8) 1 x0.D_, .int .i64 x0.E_]]) (by kernel_rfl) ?_
            refine RJ.end (by kernel_rfl) ?_
            obtain rfl := Option.some.inj h112
            refine PJ.wk (Wk.sel (L2 := [(2, .bool false)]) (H2 := []) 0 (by rw [hFH]; rfl) hFD [] (by kernel_rfl) (by kernel_rfl) (by decide) (by kernel_rfl) (by kernel_rfl) (by kernel_rfl) (by kernel_rfl)) ?_
            exact PJ.cutN [2] (by kernel_rfl) (by kernel_rfl)
        · have h108 := condF hb106 hy103
          refine RJ.seg 26 [2] (L2 := [(2, .bool false)]) (H2 := [.box [.bool x0.Neg_, lsv (encI .u8) 1 x0.D_, .int .i64 x0.E_]]) (by kernel_rfl) ?_
          refine RJ.end (by kernel_rfl) ?_
          obtain rfl := Option.some.inj h108
          refine PJ.wk (Wk.sel (L2 := [(2, .bool false)]) (H2 := []) 0 (by rw [hFH]; rfl) hFD [] (by kernel_rfl) (by kernel_rfl) (by decide) (by kernel_rfl) (by kernel_rfl) (by kernel_rfl) (by kernel_rfl)) ?_
          exact PJ.cutN [2] (by kernel_rfl) (by kernel_rfl)
      · refine K.ret (by kernel_rfl) ?_
        obtain rfl := Option.some.inj h105
        exact K.ret0 (.inr rfl) hFn hFH hFD (by kernel_rfl) (by kernel_rfl) (by kernel_rfl)

def exerguelaw05_DecNought (x0 : St47) : Option (Bool) :=
  (Option.bind exerguelaw05_shown fun y1 => (Option.bind (Option.bind (bif (decide ((x0.L_.length : Int) > 900)) then (some true) else (bif (decide (x0.E_ < (-1000000))) then (some true) else (some (decide (x0.E_ > 1000000))))) fun (s36 : Bool) => (bif s36 then (some (.inr y1)) else (some (.inl ())))) (joinX fun (s25 : Unit) => (bif mk (IntKind.wrap .i64 (Int.tmod x0.N_ 40)) (IntKind.wrap .i64 (Int.tmod x0.N_ 40)) then (bif room (((rep (IntKind.wrap .i64 (Int.tmod x0.N_ 40)) (0 : Int))).length + x0.L_.length) then (bif (decide ((0 : Int) ≤ (IntKind.wrap .i64 (Int.tmod x0.M_ 40))) && roomB (((((rep (IntKind.wrap .i64 (Int.tmod x0.N_ 40)) (0 : Int))) ++ x0.L_)).length + ((IntKind.wrap .i64 (Int.tmod x0.M_ 40)) : Int).toNat)) then (Option.bind (dec_Norm x0.Neg_ x0.L_ x0.E_) fun y54 => (Option.bind (dec_Norm x0.Neg_ ((((((rep (IntKind.wrap .i64 (Int.tmod x0.N_ 40)) (0 : Int))) ++ x0.L_)) ++ (rep (IntKind.wrap .i64 (Int.tmod x0.M_ 40)) (0 : Int)))) ((IntKind.wrap .i64 (x0.E_ - (IntKind.wrap .i64 (Int.tmod x0.M_ 40)))))) fun y57 => (Option.bind (bif y1 then (bif (decide (y54.2 = y57.2)) then (Option.bind (exergueref05_Same y54.1 y57.1) fun y92 => (bif y92 then (bif (decide (¬ y54.2 = 0)) then (some true) else (Option.bind (exergueref05_Right y54.1) fun y101 => (bif y101 then (some (y54.1.Neg_ == x0.Neg_)) else (some false)))) else (some false))) else (some false)) else (some false)) fun (s81 : Bool) => (some s81)))) else none) else none) else none))))
theorem exerguelaw05_DecNought_ok {x0 : St47} {r : Bool} (h : exerguelaw05_DecNought x0 = some r) : SC Tryd.prog 8 [.agg [.bool x0.Neg_, lsv (encI .u8) 1 x0.L_, .int .i64 x0.E_, .int .u8 x0.N_, .int .u8 x0.M_]] [] (.bool r) [] := by
  refine K.fn (fn := Tryd.f8) (by kernel_rfl) (by kernel_rfl) (by kernel_rfl) (by kernel_rfl) (by kernel_rfl) (fun F hFn hFH hFD => ?_)
  unfold exerguelaw05_DecNought at h
  refine K.seq (by kernel_rfl) ?_
  refine K.region (by kernel_rfl) ?_
  refine RJ.seg 2 [1, 2] (L2 := [(1, .ptr 0 0), (2, .bool false)]) (H2 := [.box [.bool x0.Neg_, lsv (encI .u8) 1 x0.L_, .int .i64 x0.E_, .int .u8 x0.N_, .int .u8 x0.M_]]) (by kernel_rfl) ?_
  refine RJ.end (by kernel_rfl) ?_
  refine PJ.next ?_
  refine K.seq (by kernel_rfl) ?_
  refine K.region (by kernel_rfl) ?_
  refine RJ.seg 3 [1, 2, 3] (L2 := [(1, .ptr 0 0), (2, .bool false), (3, .bool x0.Neg_)]) (H2 := [.box [.bool x0.Neg_, lsv (encI .u8) 1 x0.L_, .int .i64 x0.E_, .int .u8 x0.N_, .int .u8 x0.M_]]) (by kernel_rfl) ?_
  refine RJ.end (by kernel_rfl) ?_
  refine PJ.next ?_
  refine K.seq (by kernel_rfl) ?_
  refine K.region (by kernel_rfl) ?_
  refine RJ.seg 3 [1, 2, 3, 4] (L2 := [(1, .ptr 0 0), (2, .bool false), (3, .bool x0.Neg_), (4, lsv (encI .u8) 1 x0.L_)]) (H2 := [.box [.bool x0.Neg_, lsv (encI .u8) 1 x0.L_, .int .i64 x0.E_, .int .u8 x0.N_, .int .u8 x0.M_]]) (by kernel_rfl) ?_
  refine RJ.end (by kernel_rfl) ?_
  refine PJ.next ?_
  refine K.seq (by kernel_rfl) ?_
  refine K.region (by kernel_rfl) ?_
  refine RJ.seg 3 [1, 2, 3, 4, 5] (L2 := [(1, .ptr 0 0), (2, .bool false), (3, .bool x0.Neg_), (4, lsv (encI .u8) 1 x0.L_), (5, .int .i64 x0.E_)]) (H2 := [.box [.bool x0.Neg_, lsv (encI .u8) 1 x0.L_, .int .i64 x0.E_, .int .u8 x0.N_, .int .u8 x0.M_]]) (by kernel_rfl) ?_
  refine RJ.end (by kernel_rfl) ?_
  refine PJ.next ?_
  refine K.seq (by kernel_rfl) ?_
  refine K.region (by kernel_rfl) ?_
  refine RJ.seg 3 [1, 2, 3, 4, 5, 6] (L2 := [(1, .ptr 0 0), (2, .bool false), (3, .bool x0.Neg_), (4, lsv (encI .u8) 1 x0.L_), (5, .int .i64 x0.E_), (6, .int .u8 x0.N_)]) (H2 := [.box [.bool x0.Neg_, lsv (encI .u8) 1 x0.L_, .int .i64 x0.E_, .int .u8 x0.N_, .int .u8 x0.M_]]) (by kernel_rfl) ?_
  refine RJ.end (by kernel_rfl) ?_
  refine PJ.next ?_
  refine K.seq (by kernel_rfl) ?_
  refine K.region (by kernel_rfl) ?_
  refine RJ.seg 3 [2, 3, 4, 5, 6, 7] (L2 := [(2, .bool false), (3, .bool x0.Neg_), (4, lsv (encI .u8) 1 x0.L_), (5, .int .i64 x0.E_), (6, .int .u8 x0.N_), (7, .int .u8 x0.M_)]) (H2 := [.box [.bool x0.Neg_, lsv (encI .u8) 1 x0.L_, .int .i64 x0.E_, .int .u8 x0.N_, .int .u8 x0.M_]]) (by kernel_rfl) ?_
  refine RJ.end (by kernel_rfl) ?_
  refine PJ.next ?_
  refine K.seq (by kernel_rfl) ?_
  refine K.region (by kernel_rfl) ?_
  obtain ⟨y1, hy2, h3⟩ := bindS h
  refine RJ.call0 (d := (some 24)) (f := 10) (args := []) (v := .bool y1) (tr2 := []) (by kernel_rfl) (by kernel_rfl) .nil (exerguelaw05_shown_ok hy2) (by kernel_rfl) ?_
  refine RJ.seg 1 [2, 3, 4, 5, 6, 7, 8] (L2 := [(2, .bool false), (3, .bool x0.Neg_), (4, lsv (encI .u8) 1 x0.L_), (5, .int .i64 x0.E_), (6, .int .u8 x0.N_), (7, .int .u8 x0.M_), (8, .bool y1)]) (H2 := [.box [.bool x0.Neg_, lsv (encI .u8) 1 x0.L_, .int .i64 x0.E_, .int .u8 x0.N_, .int .u8 x0.M_]]) (by kernel_rfl) ?_
  refine RJ.end (by kernel_rfl) ?_
  refine PJ.next ?_
  obtain ⟨y26, hy27, h28⟩ := bindS h3
  refine K.cutX (by kernel_rfl) (fun (s25 : Unit) => ([(2, .bool false), (3, .bool x0.Neg_), (4, lsv (encI .u8) 1 x0.L_), (5, .int .i64 x0.E_), (6, .int .u8 x0.N_), (7, .int .u8 x0.M_), (8, .bool y1)], [])) y26 ?_ (fun s25 hs => ?_)
  · obtain ⟨s36, hy38, h40⟩ := bindS hy27
    refine K.cutN (by kernel_rfl) (fun (s36 : Bool) => ([(2, .bool false), (3, .bool x0.Neg_), (4, lsv (encI .u8) 1 x0.L_), (5, .int .i64 x0.E_), (6, .int .u8 x0.N_), (7, .int .u8 x0.M_), (8, .bool y1), (35, .bool s36)], [])) s36 ?_ ?_
    · refine K.region (by kernel_rfl) ?_
      refine RJ.seg 4 [2, 3, 4, 5, 6, 7, 8, 28] (L2 := [(2, .bool false), (3, .bool x0.Neg_), (4, lsv (encI .u8) 1 x0.L_), (5, .int .i64 x0.E_), (6, .int .u8 x0.N_), (7, .int .u8 x0.M_), (8, .bool y1), (28, .bool ((decide ((x0.L_.length : Int) > 900))))]) (H2 := [.box [.bool x0.Neg_, lsv (encI .u8) 1 x0.L_, .int .i64 x0.E_, .int .u8 x0.N_, .int .u8 x0.M_]]) (by kernel_rfl) ?_
      refine RJ.caseB 28 (b := (decide ((x0.L_.length : Int) > 900))) (by kernel_rfl) (fun hb41 => ?_) (fun hb41 => ?_)
      · have h42 := condT hb41 hy38
        refine RJ.seg 7 [2, 3, 4, 5, 6, 7, 8, 35] (L2 := [(2, .bool false), (3, .bool x0.Neg_), (4, lsv (encI .u8) 1 x0.L_), (5, .int .i64 x0.E_), (6, .int .u8 x0.N_), (7, .int .u8 x0.M_), (8, .bool y1), (35, .bool true)]) (H2 := [.box [.bool x0.Neg_, lsv (encI .u8) 1 x0.L_, .int .i64 x0.E_, .int .u8 x0.N_, .int .u8 x0.M_]]) (by kernel_rfl) ?_
        refine RJ.end (by kernel_rfl) ?_
        obtain rfl := Option.some.inj h42
        refine PJ.wk (Wk.sel (L2 := [(2, .bool false), (3, .bool x0.Neg_), (4, lsv (encI .u8) 1 x0.L_), (5, .int .i64 x0.E_), (6, .int .u8 x0.N_), (7, .int .u8 x0.M_), (8, .bool y1), (35, .bool true)]) (H2 := []) 0 (by rw [hFH]; rfl) hFD [] (by kernel_rfl) (by kernel_rfl) (by decide) (by kernel_rfl) (by kernel_rfl) (by kernel_rfl) (by kernel_rfl)) ?_
        exact PJ.cutN [2, 3, 4, 5, 6, 7, 8, 35] (by kernel_rfl) (by kernel_rfl)
      · have h43 := condF hb41 hy38
        refine RJ.seg 4 [2, 3, 4, 5, 6, 7, 8, 32] (L2 := [(2, .bool false), (3, .bool x0.Neg_), (4, lsv (encI .u8) 1 x0.L_), (5, .int .i64 x0.E_), (6, .int .u8 x0.N_), (7, .int .u8 x0.M_), (8, .bool y1), (32, .bool ((decide (x0.E_ < (-1000000)))))]) (H2 := [.box [.bool x0.Neg_, lsv (encI .u8) 1 x0.L_, .int .i64 x0.E_, .int .u8 x0.N_, .int .u8 x0.M_]]) (by kernel_rfl) ?_
        refine RJ.caseB 32 (b := (decide (x0.E_ < (-1000000)))) (by kernel_rfl) (fun hb44 => ?_) (fun hb44 => ?_)
        · have h45 := condT hb44 h43
          refine RJ.seg 3 [2, 3, 4, 5, 6, 7, 8, 35] (L2 := [(2, .bool false), (3, .bool x0.Neg_), (4, lsv (encI .u8) 1 x0.L_), (5, .int .i64 x0.E_), (6, .int .u8 x0.N_), (7, .int .u8 x0.M_), (8, .bool y1), (35, .bool true)]) (H2 := [.box [.bool x0.Neg_, lsv (encI .u8) 1 x0.L_, .int .i64 x0.E_, .int .u8 x0.N_, .int .u8 x0.M_]]) (by kernel_rfl) ?_
          refine RJ.end (by kernel_rfl) ?_
          obtain rfl := Option.some.inj h45
          refine PJ.wk (Wk.sel (L2 := [(2, .bool false), (3, .bool x0.Neg_), (4, lsv (encI .u8) 1 x0.L_), (5, .int .i64 x0.E_), (6, .int .u8 x0.N_), (7, .int .u8 x0.M_), (8, .bool y1), (35, .bool true)]) (H2 := []) 0 (by rw [hFH]; rfl) hFD [] (by kernel_rfl) (by kernel_rfl) (by decide) (by kernel_rfl) (by kernel_rfl) (by kernel_rfl) (by kernel_rfl)) ?_
          exact PJ.cutN [2, 3, 4, 5, 6, 7, 8, 35] (by kernel_rfl) (by kernel_rfl)
        · have h46 := condF hb44 h43
          refine RJ.seg 3 [2, 3, 4, 5, 6, 7, 8, 35] (L2 := [(2, .bool false), (3, .bool x0.Neg_), (4, lsv (encI .u8) 1 x0.L_), (5, .int .i64 x0.E_), (6, .int .u8 x0.N_), (7, .int .u8 x0.M_), (8, .bool y1), (35, .bool (decide (x0.E_ > 1000000)))]) (H2 := [.box [.bool x0.Neg_, lsv (encI .u8) 1 x0.L_, .int .i64 x0.E_, .int .u8 x0.N_, .int .u8 x0.M_]]) (by kernel_rfl) ?_
          refine RJ.end (by kernel_rfl) ?_
          obtain rfl := Option.some.inj h46
          refine PJ.wk (Wk.sel (L2 := [(2, .bool false), (3, .bool x0.Neg_), (4, lsv (encI .u8) 1 x0.L_), (5, .int .i64 x0.E_), (6, .int .u8 x0.N_), (7, .int .u8 x0.M_), (8, .bool y1), (35, .bool (decide (x0.E_ > 1000000)))]) (H2 := []) 0 (by rw [hFH]; rfl) hFD [] (by kernel_rfl) (by kernel_rfl) (by decide) (by kernel_rfl) (by kernel_rfl) (by kernel_rfl) (by kernel_rfl)) ?_
          exact PJ.cutN [2, 3, 4, 5, 6, 7, 8, 35] (by kernel_rfl) (by kernel_rfl)
    · refine J.caseB 35 (b := s36) (by kernel_rfl) (fun hb47 => ?_) (fun hb47 => ?_)
      · have h48 := condT hb47 h40
        refine K.condT (by kernel_rfl) ?_
        refine K.seq (by kernel_rfl) ?_
        refine K.region (by kernel_rfl) ?_
        refine RJ.seg 2 [2, 3, 4, 5, 6, 7, 8] (L2 := [(2, .bool y1), (3, .bool x0.Neg_), (4, lsv (encI .u8) 1 x0.L_), (5, .int .i64 x0.E_), (6, .int .u8 x0.N_), (7, .int .u8 x0.M_), (8, .bool y1)]) (H2 := []) (by kernel_rfl) ?_
        refine RJ.end (by kernel_rfl) ?_
        refine PJ.next ?_
        refine K.ret (by kernel_rfl) ?_
        obtain rfl := Option.some.inj h48
        have h50 := joinX_inr h28
        refine PJ.cutXr (fun e => nomatch e) ?_
        obtain rfl := Option.some.inj h50
        exact K.ret0 (.inr rfl) hFn hFH hFD (by kernel_rfl) (by kernel_rfl) (by kernel_rfl)
      · have h49 := condF hb47 h40
        refine K.condF (by kernel_rfl) ?_
        refine K.skip (by kernel_rfl) ?_
        obtain rfl := Option.some.inj h49
        exact PJ.cutXl [2, 3, 4, 5, 6, 7, 8] (by kernel_rfl) (by kernel_rfl)
  · subst hs
    have h29 := joinX_inl h28
    refine K.seq (by kernel_rfl) ?_
    refine K.region (by kernel_rfl) ?_
    refine RJ.seg 3 [2, 3, 4, 5, 7, 8, 39] (L2 := [(2, .bool false), (3, .bool x0.Neg_), (4, lsv (encI .u8) 1 x0.L_), (5, .int .i64 x0.E_), (7, .int .u8 x0.M_), (8, .bool y1), (39, .int .i64 (IntKind.wrap .i64 (Int.tmod x0.N_ 40)))]) (H2 := []) (by kernel_rfl) ?_
    obtain ⟨hm, h51⟩ := asrt h29
    refine RJ.rel (d := (some 40)) (ef := ⟨.vc 0, [], [(0, .vec ((IntKind.wrap .i64 (Int.tmod x0.N_ 40)) : Int).toNat 1 5 (List.replicate ((IntKind.wrap .i64 (Int.tmod x0.N_ 40)) : Int).toNat ((encI .u8) (0 : Int))).flatten)]⟩) (ef' := ⟨.vc 0, [], [(0, vecL (encI .u8) 1 5 (rep (IntKind.wrap .i64 (Int.tmod x0.N_ 40)) (0 : Int)))]⟩) (c := mk (IntKind.wrap .i64 (Int.tmod x0.N_ 40)) (IntKind.wrap .i64 (Int.tmod x0.N_ 40))) (tr2 := []) (H2 := [vecL (encI .u8) 1 5 ((rep (IntKind.wrap .i64 (Int.tmod x0.N_ 40)) (0 : Int)))]) (by kernel_rfl) hm (fun hc => N.make) (by kernel_rfl) ?_
    refine RJ.seg 1 [2, 3, 4, 5, 7, 8, 40, 41] (L2 := [(2, .bool false), (3, .bool x0.Neg_), (4, lsv (encI .u8) 1 x0.L_), (5, .int .i64 x0.E_), (7, .int .u8 x0.M_), (8, .bool y1), (40, .vc 0), (41, lsv (encI .u8) 1 x0.L_)]) (H2 := [vecL (encI .u8) 1 5 ((rep (IntKind.wrap .i64 (Int.tmod x0.N_ 40)) (0 : Int)))]) (by kernel_rfl) ?_
    obtain ⟨hm, h52⟩ := asrt h51
    refine RJ.rel (d := (some 42)) (ef := ⟨.vc 1, [0], [(0, .gone), (1, .vec (((rep (IntKind.wrap .i64 (Int.tmod x0.N_ 40)) (0 : Int))).length + x0.L_.length) 1 5 (((rep (IntKind.wrap .i64 (Int.tmod x0.N_ 40)) (0 : Int))).flatMap (encI .u8) ++ x0.L_.flatMap (encI .u8)))]⟩) (ef' := ⟨.vc 1, [0], [(0, .gone), (1, vecL (encI .u8) 1 5 (((rep (IntKind.wrap .i64 (Int.tmod x0.N_ 40)) (0 : Int))) ++ x0.L_))]⟩) (c := roomB (((rep (IntKind.wrap .i64 (Int.tmod x0.N_ 40)) (0 : Int))).length + x0.L_.length)) (tr2 := []) (H2 := [.gone, vecL (encI .u8) 1 5 ((((rep (IntKind.wrap .i64 (Int.tmod x0.N_ 40)) (0 : Int))) ++ x0.L_))]) (by kernel_rfl) (roomB_of_room hm) (fun hc => N.app) (by kernel_rfl) ?_
    refine RJ.seg 3 [2, 3, 4, 5, 7, 8, 42, 45] (L2 := [(2, .bool false), (3, .bool x0.Neg_), (4, lsv (encI .u8) 1 x0.L_), (5, .int .i64 x0.E_), (7, .int .u8 x0.M_), (8, .bool y1), (42, .vc 1), (45, .int .i64 (IntKind.wrap .i64 (Int.tmod x0.M_ 40)))]) (H2 := [.gone, vecL (encI .u8) 1 5 ((((rep (IntKind.wrap .i64 (Int.tmod x0.N_ 40)) (0 : Int))) ++ x0.L_))]) (by kernel_rfl) ?_
    obtain ⟨hm, h53⟩ := asrt h52
    refine RJ.rel (d := (some 46)) (ef := ⟨.vc 2, [1], [(1, .gone), (2, .vec (((((rep (IntKind.wrap .i64 (Int.tmod x0.N_ 40)) (0 : Int))) ++ x0.L_)).length + ((IntKind.wrap .i64 (Int.tmod x0.M_ 40)) : Int).toNat) 1 5 (((((rep (IntKind.wrap .i64 (Int.tmod x0.N_ 40)) (0 : Int))) ++ x0.L_)).flatMap (encI .u8) ++ (List.replicate ((IntKind.wrap .i64 (Int.tmod x0.M_ 40)) : Int).toNat ((encI .u8) (0 : Int))).flatten))]⟩) (ef' := ⟨.vc 2, [1], [(1, .gone), (2, vecL (encI .u8) 1 5 (((((rep (IntKind.wrap .i64 (Int.tmod x0.N_ 40)) (0 : Int))) ++ x0.L_)) ++ (rep (IntKind.wrap .i64 (Int.tmod x0.M_ 40)) (0 : Int))))]⟩) (c := (decide ((0 : Int) ≤ (IntKind.wrap .i64 (Int.tmod x0.M_ 40))) && roomB (((((rep (IntKind.wrap .i64 (Int.tmod x0.N_ 40)) (0 : Int))) ++ x0.L_)).length + ((IntKind.wrap .i64 (Int.tmod x0.M_ 40)) : Int).toNat))) (tr2 := []) (H2 := [.gone, .gone, vecL (encI .u8) 1 5 ((((((rep (IntKind.wrap .i64 (Int.tmod x0.N_ 40)) (0 : Int))) ++ x0.L_)) ++ (rep (IntKind.wrap .i64 (Int.tmod x0.M_ 40)) (0 : Int))))]) (by kernel_rfl) hm (fun hc => N.appMake) (by kernel_rfl) ?_
    refine RJ.seg 1 [2, 3, 4, 5, 7, 8, 9] (L2 := [(2, .bool false), (3, .bool x0.Neg_), (4, lsv (encI .u8) 1 x0.L_), (5, .int .i64 x0.E_), (7, .int .u8 x0.M_), (8, .bool y1), (9, .vc 2)]) (H2 := [.gone, .gone, vecL (encI .u8) 1 5 ((((((rep (IntKind.wrap .i64 (Int.tmod x0.N_ 40)) (0 : Int))) ++ x0.L_)) ++ (rep (IntKind.wrap .i64 (Int.tmod x0.M_ 40)) (0 : Int))))]) (by kernel_rfl) ?_
    refine RJ.end (by kernel_rfl) ?_
    refine PJ.next ?_
    refine K.seq (by kernel_rfl) ?_
    refine K.region (by kernel_rfl) ?_
    refine RJ.seg 3 [2, 3, 5, 7, 8, 9, 48, 49, 50] (L2 := [(2, .bool false), (3, .bool x0.Neg_), (5, .int .i64 x0.E_), (7, .int .u8 x0.M_), (8, .bool y1), (9, .vc 2), (48, .bool x0.Neg_), (49, lsv (encI .u8) 1 x0.L_), (50, .int .i64 x0.E_)]) (H2 := [.gone, .gone, vecL (encI .u8) 1 5 ((((((rep (IntKind.wrap .i64 (Int.tmod x0.N_ 40)) (0 : Int))) ++ x0.L_)) ++ (rep (IntKind.wrap .i64 (Int.tmod x0.M_ 40)) (0 : Int))))]) (by kernel_rfl) ?_
    obtain ⟨y54, hy55, h56⟩ := bindS h53
    refine RJ.call0 (d := (some 51)) (f := 22) (args := [.bool x0.Neg_, lsv (encI .u8) 1 x0.L_, .int .i64 x0.E_]) (v := .tup [.agg [.bool y54.1.Neg_, lsv (encI .u8) 1 y54.1.D_, .int .i64 y54.1.E_], .int .i64 y54.2]) (tr2 := []) (by kernel_rfl) (by kernel_rfl) (.cons (Le.refl _) (.cons (Le.refl _) (.cons (Le.refl _) .nil))) (dec_Norm_ok hy55) (by kernel_rfl) ?_
    refine RJ.seg 6 [2, 3, 5, 7, 8, 9, 10, 11] (L2 := [(2, .bool false), (3, .bool x0.Neg_), (5, .int .i64 x0.E_), (7, .int .u8 x0.M_), (8, .bool y1), (9, .vc 2), (10, .ptr 3 0), (11, .int .i64 y54.2)]) (H2 := [.gone, .gone, vecL (encI .u8) 1 5 ((((((rep (IntKind.wrap .i64 (Int.tmod x0.N_ 40)) (0 : Int))) ++ x0.L_)) ++ (rep (IntKind.wrap .i64 (Int.tmod x0.M_ 40)) (0 : Int)))), .box [.bool y54.1.Neg_, lsv (encI .u8) 1 y54.1.D_, .int .i64 y54.1.E_]]) (by kernel_rfl) ?_
    refine RJ.end (by kernel_rfl) ?_
    refine PJ.next ?_
    refine K.seq (by kernel_rfl) ?_
    refine K.region (by kernel_rfl) ?_
    refine RJ.seg 7 [2, 3, 8, 10, 11, 55, 56, 61] (L2 := [(2, .bool false), (3, .bool x0.Neg_), (8, .bool y1), (10, .ptr 3 0), (11, .int .i64 y54.2), (55, .bool x0.Neg_), (56, .vc 2), (61, .int .i64 ((IntKind.wrap .i64 (x0.E_ - (IntKind.wrap .i64 (Int.tmod x0.M_ 40))))))]) (H2 := [.gone, .gone, vecL (encI .u8) 1 5 ((((((rep (IntKind.wrap .i64 (Int.tmod x0.N_ 40)) (0 : Int))) ++ x0.L_)) ++ (rep (IntKind.wrap .i64 (Int.tmod x0.M_ 40)) (0 : Int)))), .box [.bool y54.1.Neg_, lsv (encI .u8) 1 y54.1.D_, .int .i64 y54.1.E_]]) (by kernel_rfl) ?_
    obtain ⟨y57, hy58, h59⟩ := bindS h56
    refine RJ.wk (Wk.freeze 2 (n := ((((((rep (IntKind.wrap .i64 (Int.tmod x0.N_ 40)) (0 : Int))) ++ x0.L_)) ++ (rep (IntKind.wrap .i64 (Int.tmod x0.M_ 40)) (0 : Int)))).length) (k := 1) (e := 5) (cs := ((((((rep (IntKind.wrap .i64 (Int.tmod x0.N_ 40)) (0 : Int))) ++ x0.L_)) ++ (rep (IntKind.wrap .i64 (Int.tmod x0.M_ 40)) (0 : Int)))).flatMap (encI .u8)) (by kernel_rfl)) ?_
    refine RJ.call0 (d := (some 62)) (f := 22) (args := [.bool x0.Neg_, lsv (encI .u8) 1 ((((((rep (IntKind.wrap .i64 (Int.tmod x0.N_ 40)) (0 : Int))) ++ x0.L_)) ++ (rep (IntKind.wrap .i64 (Int.tmod x0.M_ 40)) (0 : Int)))), .int .i64 ((IntKind.wrap .i64 (x0.E_ - (IntKind.wrap .i64 (Int.tmod x0.M_ 40)))))]) (v := .tup [.agg [.bool y57.1.Neg_, lsv (encI .u8) 1 y57.1.D_, .int .i64 y57.1.E_], .int .i64 y57.2]) (tr2 := []) (by kernel_rfl) (by kernel_rfl) (.cons (Le.refl _) (.cons (Le.refl _) (.cons (Le.refl _) .nil))) (dec_Norm_ok hy58) (by kernel_rfl) ?_
    refine RJ.seg 6 [2, 3, 8, 10, 11, 12, 13] (L2 := [(2, .bool false), (3, .bool x0.Neg_), (8, .bool y1), (10, .ptr 3 0), (11, .int .i64 y54.2), (12, .ptr 4 0), (13, .int .i64 y57.2)]) (H2 := [.gone, .gone, .gone, .box [.bool y54.1.Neg_, lsv (encI .u8) 1 y54.1.D_, .int .i64 y54.1.E_], .box [.bool y57.1.Neg_, lsv (encI .u8) 1 y57.1.D_, .int .i64 y57.1.E_]]) (by kernel_rfl) ?_
    refine RJ.end (by kernel_rfl) ?_
    refine PJ.next ?_
    obtain ⟨s81, hy83, h85⟩ := bindS h59
    refine K.cutN (by kernel_rfl) (fun (s81 : Bool) => ([(2, .bool s81)], [])) s81 ?_ ?_
    · refine K.region (by kernel_rfl) ?_
      refine RJ.seg 2 [2, 3, 10, 11, 12, 13, 66] (L2 := [(2, .bool false), (3, .bool x0.Neg_), (10, .ptr 3 0), (11, .int .i64 y54.2), (12, .ptr 4 0), (13, .int .i64 y57.2), (66, .bool y1)]) (H2 := [.gone, .gone, .gone, .box [.bool y54.1.Neg_, lsv (encI .u8) 1 y54.1.D_, .int .i64 y54.1.E_], .box [.bool y57.1.Neg_, lsv (encI .u8) 1 y57.1.D_, .int .i64 y57.1.E_]]) (by kernel_rfl) ?_
      refine RJ.caseB 66 (b := y1) (by kernel_rfl) (fun hb86 => ?_) (fun hb86 => ?_)
      · have h87 := condT hb86 hy83
        refine RJ.seg 5 [2, 3, 10, 11, 12, 71] (L2 := [(2, .bool false), (3, .bool x0.Neg_), (10, .ptr 3 0), (11, .int .i64 y54.2), (12, .ptr 4 0), (71, .bool (decide (y54.2 = y57.2)))]) (H2 := [.gone, .gone, .gone, .box [.bool y54.1.Neg_, lsv (encI .u8) 1 y54.1.D_, .int .i64 y54.1.E_], .box [.bool y57.1.Neg_, lsv (encI .u8) 1 y57.1.D_, .int .i64 y57.1.E_]]) (by kernel_rfl) ?_
        refine RJ.caseB 71 (b := (decide (y54.2 = y57.2))) (by kernel_rfl) (fun hb89 => ?_) (fun hb89 => ?_)
        · have h90 := condT hb89 h87
          refine RJ.seg 2 [2, 3, 10, 11, 71, 72, 73] (L2 := [(2, .bool false), (3, .bool x0.Neg_), (10, .ptr 3 0), (11, .int .i64 y54.2), (71, .bool true), (72, .agg [.bool y54.1.Neg_, lsv (encI .u8) 1 y54.1.D_, .int .i64 y54.1.E_]), (73, .agg [.bool y57.1.Neg_, lsv (encI .u8) 1 y57.1.D_, .int .i64 y57.1.E_])]) (H2 := [.gone, .gone, .gone, .box [.bool y54.1.Neg_, lsv (encI .u8) 1 y54.1.D_, .int .i64 y54.1.E_], .box [.bool y57.1.Neg_, lsv (encI .u8) 1 y57.1.D_, .int .i64 y57.1.E_]]) (by kernel_rfl) ?_
          obtain ⟨y92, hy93, h94⟩ := bindS h90
          refine RJ.call0 (d := (some 74)) (f := 13) (args := [.agg [.bool y54.1.Neg_, lsv (encI .u8) 1 y54.1.D_, .int .i64 y54.1.E_], .agg [.bool y57.1.Neg_, lsv (encI .u8) 1 y57.1.D_, .int .i64 y57.1.E_]]) (v := .bool y92) (tr2 := []) (by kernel_rfl) (by kernel_rfl) (.cons (Le.refl _) (.cons (Le.refl _) .nil)) (exergueref05_Same_ok hy93) (by kernel_rfl) ?_
          refine RJ.seg 2 [2, 3, 10, 11, 76] (L2 := [(2, .bool false), (3, .bool x0.Neg_), (10, .ptr 3 0), (11, .int .i64 y54.2), (76, .bool y92)]) (H2 := [.gone, .gone, .gone, .box [.bool y54.1.Neg_, lsv (encI .u8) 1 y54.1.D_, .int .i64 y54.1.E_], .box [.bool y57.1.Neg_, lsv (encI .u8) 1 y57.1.D_, .int .i64 y57.1.E_]]) (by kernel_rfl) ?_
          refine RJ.caseB 76 (b := y92) (by kernel_rfl) (fun hb95 => ?_) (fun hb95 => ?_)
          · have h96 := condT hb95 h94
            refine RJ.seg 3 [2, 3, 10, 76, 79] (L2 := [(2, .bool false), (3, .bool x0.Neg_), (10, .ptr 3 0), (76, .bool true), (79, .bool (decide (¬ y54.2 = 0)))]) (H2 := [.gone, .gone, .gone, .box [.bool y54.1.Neg_, lsv (encI .u8) 1 y54.1.D_, .int .i64 y54.1.E_], .box [.bool y57.1.Neg_, lsv (encI .u8) 1 y57.1.D_, .int .i64 y57.1.E_]]) (by kernel_rfl) ?_
            refine RJ.caseB 79 (b := (decide (¬ y54.2 = 0))) (by kernel_rfl) (fun hb98 => ?_) (fun hb98 => ?_)
            · have h99 := condT hb98 h96
              refine RJ.seg 11 [2] (L2 := [(2, .bool true)]) (H2 := [.gone, .gone, .gone, .box [.bool y54.1.Neg_, lsv (encI .u8) 1 y54.1.D_, .int .i64 y54.1.E_], .box [.bool y57.1.Neg_, lsv (encI .u8) 1 y57.1.D_, .int .i64 y57.1.E_]]) (by kernel_rfl) ?_
              refine RJ.end (by kernel_rfl) ?_
              obtain rfl := Option.some.inj h99
              refine PJ.wk (Wk.sel (L2 := [(2, .bool true)]) (H2 := []) 0 (by rw [hFH]; rfl) hFD [] (by kernel_rfl) (by kernel_rfl) (by decide) (by kernel_rfl) (by kernel_rfl) (by kernel_rfl) (by kernel_rfl)) ?_
              exact PJ.cutN [2] (by kernel_rfl) (by kernel_rfl)
            · have h100 := condF hb98 h96
              refine RJ.seg 1 [2, 3, 10, 76, 79, 80] (L2 := [(2, .bool false), (3, .bool x0.Neg_), (10, .ptr 3 0), (76, .bool true), (79, .bool false), (80, .agg [.bool y54.1.Neg_, lsv (encI .u8) 1 y54.1.D_, .int .i64 y54.1.E_])]) (H2 := [.gone, .gone, .gone, .box [.bool y54.1.Neg_, lsv (encI .u8) 1 y54.1.D_, .int .i64 y54.1.E_], .box [.bool y57.1.Neg_, lsv (encI .u8) 1 y57.1.D_, .int .i64 y57.1.E_]]) (by kernel_rfl) ?_
              obtain ⟨y101, hy102, h103⟩ := bindS h100
              refine RJ.call0 (d := (some 81)) (f := 14) (args := [.agg [.bool y54.1.Neg_, lsv (encI .u8) 1 y54.1.D_, .int .i64 y54.1.E_]]) (v := .bool y101) (tr2 := []) (by kernel_rfl) (by kernel_rfl) (.cons (Le.refl _) .nil) (exergueref05_Right_ok hy102) (by kernel_rfl) ?_
              refine RJ.seg 1 [2, 3, 10, 76, 79, 82] (L2 := [(2, .bool false), (3, .bool x0.Neg_), (10, .ptr 3 0), (76, .bool true), (79, .bool false), (82, .bool y101)]) (H2 := [.gone, .gone, .gone, .box [.bool y54.1.Neg_, lsv (encI .u8) 1 y54.1.D_, .int .i64 y54.1.E_], .box [.bool y57.1.Neg_, lsv (encI .u8) 1 y57.1.D_, .int .i64 y57.1.E_]]) (by kernel_rfl) ?_
              refine RJ.caseB 82 (b := y101) (by kernel_rfl) (fun hb104 => ?_) (fun hb104 => ?_)
              · have h105 := condT hb104 h103
                refine RJ.seg 8 [2] (L2 := [(2, .bool (y54.1.Neg_ == x0.Neg_))]) (H2 := [.gone, .gone, .gone, .box [.bool y54.1.Neg_, lsv (encI .u8) 1 y54.1.D_, .int .i64 y54.1.E_], .box [.bool y57.1.Neg_, lsv (encI .u8) 1 y57.1.D_, .int .i64 y57.1.E_]]) (by kernel_rfl) ?_
                refine RJ.end (by kernel_rfl) ?_
                obtain rfl := Option.some.inj h105
                refine PJ.wk (Wk.sel (L2 := [(2, .bool (y54.1.Neg_ == x0.Neg_))]) (H2 := []) 0 (by rw [hFH]; rfl) hFD [] (by kernel_rfl) (by kernel_rfl) (by decide) (by kernel_rfl) (by kernel_rfl) (by kernel_rfl) (by kernel_rfl)) ?_
                exact PJ.cutN [2] (by kernel_rfl) (by kernel_rfl)
              · have h106 := condF hb104 h103
                refine RJ.seg 8 [2] (L2 := [(2, .bool false)]) (H2 := [.gone, .gone, .gone, .box [.bool y54.1.Neg_, lsv (encI .u8) 1 y54.1.D_, .int .i64 y54.1.E_], .box [.bool y57.1.Neg_, lsv (encI .u8) 1 y57.1.D_, .int .i64 y57.1.E_]]) (by kernel_rfl) ?_
                refine RJ.end (by kernel_rfl) ?_
                obtain rfl := Option.some.inj h106
                refine PJ.wk (Wk.sel (L2 := [(2, .bool false)]) (H2 := []) 0 (by rw [hFH]; rfl) hFD [] (by kernel_rfl) (by kernel_rfl) (by decide) (by kernel_rfl) (by kernel_rfl) (by kernel_rfl) (by kernel_rfl)) ?_
                exact PJ.cutN [2] (by kernel_rfl) (by kernel_rfl)
          · have h97 := condF hb95 h94
            refine RJ.seg 14 [2] (L2 := [(2, .bool false)]) (H2 := [.gone, .gone, .gone, .box [.bool y54.1.Neg_, lsv (encI .u8) 1 y54.1.D_, .int .i64 y54.1.E_], .box [.bool y57.1.Neg_, lsv (encI .u8) 1 y57.1.D_, .int .i64 y57.1.E_]]) (by kernel_rfl) ?_
            refine RJ.end (by kernel_rfl) ?_
            obtain rfl := Option.some.inj h97
            refine PJ.wk (Wk.sel (L2 := [(2, .bool false)]) (H2 := []) 0 (by rw [hFH]; rfl) hFD [] (by kernel_rfl) (by kernel_rfl) (by decide) (by kernel_rfl) (by kernel_rfl) (by kernel_rfl) (by kernel_rfl)) ?_
            exact PJ.cutN [2] (by kernel_rfl) (by kernel_rfl)
        · have h91 := condF hb89 h87
          refine RJ.seg 19 [2] (L2 := [(2, .bool false)]) (H2 := [.gone, .gone, .gone, .box [.bool y54.1.Neg_, lsv (encI .u8) 1 y54.1.D_, .int .i64 y54.1.E_], .box [.bool y57.1.Neg_, lsv (encI .u8) 1 y57.1.D_, .int .i64 y57.1.E_]]) (by kernel_rfl) ?_
          refine RJ.end (by kernel_rfl) ?_
          obtain rfl := Option.some.inj h91
          refine PJ.wk (Wk.sel (L2 := [(2, .bool false)]) (H2 := []) 0 (by rw [hFH]; rfl) hFD [] (by kernel_rfl) (by kernel_rfl) (by decide) (by kernel_rfl) (by kernel_rfl) (by kernel_rfl) (by kernel_rfl)) ?_
          exact PJ.cutN [2] (by kernel_rfl) (by kernel_rfl)
      · have h88 := condF hb86 hy83
        refine RJ.seg 24 [2] (L2 := [(2, .bool false)]) (H2 := [.gone, .gone, .gone, .box [.bool y54.1.Neg_, lsv (encI .u8) 1 y54.1.D_, .int .i64 y54.1.E_], .box [.bool y57.1.Neg_, lsv (encI .u8) 1 y57.1.D_, .int .i64 y57.1.E_]]) (by kernel_rfl) ?_
        refine RJ.end (by kernel_rfl) ?_
        obtain rfl := Option.some.inj h88
        refine PJ.wk (Wk.sel (L2 := [(2, .bool false)]) (H2 := []) 0 (by rw [hFH]; rfl) hFD [] (by kernel_rfl) (by kernel_rfl) (by decide) (by kernel_rfl) (by kernel_rfl) (by kernel_rfl) (by kernel_rfl)) ?_
        exact PJ.cutN [2] (by kernel_rfl) (by kernel_rfl)
    · refine K.ret (by kernel_rfl) ?_
      obtain rfl := Option.some.inj h85
      exact K.ret0 (.inr rfl) hFn hFH hFD (by kernel_rfl) (by kernel_rfl) (by kernel_rfl)

end Go.Proofs.YtcldeecdhdcjdaaDoor
