/-
  What the functions of this program come to, as functions of natives, each with the proof that it does. No conditions.
-/
import Derived.Test.YtddkgejgocahjaaProg
import Derived.Test.YtddkgejgocahjaaSyV
namespace Go.Proofs.Ytddkgejgocahjaa
open Go Go.Sy Go.RowKit
set_option linter.unusedVariables false
set_option linter.unusedSimpArgs false
set_option maxRecDepth 100000

structure St23 where
  I_ : List Int
  F_ : List Int
  W_ : Int
  C_ : Int
  deriving Inhabited, DecidableEq
def encSt23 (x : St23) : List SV := [lsv (encI .u8) 1 x.I_, lsv (encI .u8) 1 x.F_, .int .i64 x.W_, .int .i64 x.C_]
theorem encSt23_len (x : St23) : (encSt23 x).length = 4 := rfl

structure St25 where
  Whole_ : List Int
  Part_ : List Int
  C_ : Int
  O_ : St23
  Name_ : Int
  deriving Inhabited, DecidableEq
def encSt25 (x : St25) : List SV := [lsv (encI .u8) 1 x.Whole_, lsv (encI .u8) 1 x.Part_, .int .i64 x.C_, lsv (encI .u8) 1 x.O_.I_, lsv (encI .u8) 1 x.O_.F_, .int .i64 x.O_.W_, .int .i64 x.O_.C_, .int .u8 x.Name_]
theorem encSt25_len (x : St25) : (encSt25 x).length = 8 := rfl

def oper_figures (x0 : List Int) : Option (Bool) :=
  (Option.bind (loopN (fun (s45 : Int) => (bif (decide (s45 < (x0.length : Int))) then (bif inR s45 x0.length then (bif (decide ((nth x0 s45) > 9)) then (some (.inr (.inr false))) else (some (.inl (IntKind.wrap .i64 (s45 + 1))))) else none) else (some (.inr (.inl ()))))) big 0) (joinX fun (s40 : Unit) => (some true)))
theorem oper_figures_ok {x0 : List Int} {r : Bool} (h : oper_figures x0 = some r) : SC Try.prog 26 [lsv (encI .u8) 1 x0] [] (.bool r) [] := by
  refine K.fn (fn := Try.f26) (by kernel_rfl) (by kernel_rfl) (by kernel_rfl) (by kernel_rfl) (by kernel_rfl) (fun F hFn hFH hFD => ?_)
  unfold oper_figures at h
  refine K.seq (by kernel_rfl) ?_
  refine K.region (by kernel_rfl) ?_
  refine RJ.seg 1 [0, 2] (L2 := [(0, lsv (encI .u8) 1 x0), (2, .bool false)]) (H2 := []) (by kernel_rfl) ?_
  refine RJ.end (by kernel_rfl) ?_
  refine PJ.next ?_
  obtain ⟨y41, hy42, h43⟩ := bindS h
  refine K.cutX (by kernel_rfl) (fun (s40 : Unit) => ([(2, .bool false)], [])) y41 ?_ (fun s40 hs => ?_)
  · refine K.seq (by kernel_rfl) ?_
    refine K.region (by kernel_rfl) ?_
    refine RJ.seg 3 [2, 5, 6, 7] (L2 := [(2, .bool false), (5, lsv (encI .u8) 1 x0), (6, .int .i64 (x0.length : Int)), (7, .int .i64 0)]) (H2 := []) (by kernel_rfl) ?_
    refine RJ.end (by kernel_rfl) ?_
    refine PJ.next ?_
    refine K.block 0 (by kernel_rfl) ?_
    refine K.loop (by kernel_rfl) (fun (s45 : Int) => ([(2, .bool false), (5, lsv (encI .u8) 1 x0), (6, .int .i64 (x0.length : Int)), (7, .int .i64 s45)], [])) hy42 [2, 5, 6, 7] (by kernel_rfl) (by kernel_rfl) (fun s45 x71 hs70 => ?_)
    refine K.seq (by kernel_rfl) ?_
    refine K.region (by kernel_rfl) ?_
    refine RJ.seg 1 [2, 5, 6, 7, 8] (L2 := [(2, .bool false), (5, lsv (encI .u8) 1 x0), (6, .int .i64 (x0.length : Int)), (7, .int .i64 s45), (8, .bool ((decide (s45 < (x0.length : Int)))))]) (H2 := []) (by kernel_rfl) ?_
    refine RJ.end (by kernel_rfl) ?_
    refine PJ.next ?_
    refine K.seq (by kernel_rfl) ?_
    refine J.caseB 8 (b := (decide (s45 < (x0.length : Int)))) (by kernel_rfl) (fun hb72 => ?_) (fun hb72 => ?_)
    · have h73 := condT hb72 hs70
      refine K.condT (by kernel_rfl) ?_
      refine K.skip (by kernel_rfl) ?_
      refine PJ.next ?_
      refine K.seq (by kernel_rfl) ?_
      refine K.block 1 (by kernel_rfl) ?_
      refine K.seq (by kernel_rfl) ?_
      refine K.region (by kernel_rfl) ?_
      obtain ⟨hm, h75⟩ := asrt h73
      refine RJ.rel (d := (some 9)) (ef := ⟨.ep (((x0.flatMap (encI .u8)).drop ((s45 : Int).toNat * 1)).take 1), [], []⟩) (ef' := ⟨.ep ((encI .u8) (nth x0 s45)), [], []⟩) (c := inR s45 x0.length) (tr2 := []) (H2 := []) (by kernel_rfl) hm (fun hc => N.idx (encI_len .u8) hc) (by kernel_rfl) ?_
      refine RJ.seg 2 [2, 4, 5, 6, 7] (L2 := [(2, .bool false), (4, .int .u8 (nth x0 s45)), (5, lsv (encI .u8) 1 x0), (6, .int .i64 (x0.length : Int)), (7, .int .i64 s45)]) (H2 := []) (by kernel_rfl) ?_
      refine RJ.end (by kernel_rfl) ?_
      refine PJ.next ?_
      refine K.seq (by kernel_rfl) ?_
      refine K.region (by kernel_rfl) ?_
      refine RJ.seg 2 [2, 5, 6, 7, 12] (L2 := [(2, .bool false), (5, lsv (encI .u8) 1 x0), (6, .int .i64 (x0.length : Int)), (7, .int .i64 s45), (12, .bool ((decide ((nth x0 s45) > 9))))]) (H2 := []) (by kernel_rfl) ?_
      refine RJ.end (by kernel_rfl) ?_
      refine PJ.next ?_
      refine J.caseB 12 (b := (decide ((nth x0 s45) > 9))) (by kernel_rfl) (fun hb76 => ?_) (fun hb76 => ?_)
      · have h77 := condT hb76 h75
        refine K.condT (by kernel_rfl) ?_
        refine K.seq (by kernel_rfl) ?_
        refine K.region (by kernel_rfl) ?_
        refine RJ.seg 1 [2, 5, 6, 7] (L2 := [(2, .bool false), (5, lsv (encI .u8) 1 x0), (6, .int .i64 (x0.length : Int)), (7, .int .i64 s45)]) (H2 := []) (by kernel_rfl) ?_
        refine RJ.end (by kernel_rfl) ?_
        refine PJ.next ?_
        refine K.ret (by kernel_rfl) ?_
        refine PJ.blockRet ?_
        refine PJ.passRet ?_
        obtain rfl := Option.some.inj h77
        refine PJ.loopOut (fun e => nomatch e) (fun he81 => ?_)
        have h79 := congrArg some he81
        refine PJ.blockRet ?_
        obtain rfl := Option.some.inj h79
        have h80 := joinX_inr h43
        refine PJ.cutXr (fun e => nomatch e) ?_
        obtain rfl := Option.some.inj h80
        exact K.ret0 (.inr rfl) hFn hFH hFD (by kernel_rfl) (by kernel_rfl) (by kernel_rfl)
      · have h78 := condF hb76 h75
        refine K.condF (by kernel_rfl) ?_
        refine K.skip (by kernel_rfl) ?_
        refine PJ.blockNormal ?_
        refine PJ.next ?_
        refine K.region (by kernel_rfl) ?_
        refine RJ.seg 2 [2, 5, 6, 7] (L2 := [(2, .bool false), (5, lsv (encI .u8) 1 x0), (6, .int .i64 (x0.length : Int)), (7, .int .i64 (IntKind.wrap .i64 (s45 + 1)))]) (H2 := []) (by kernel_rfl) ?_
        refine RJ.end (by kernel_rfl) ?_
        obtain rfl := Option.some.inj h78
        exact PJ.loopNext [2, 5, 6, 7] (by kernel_rfl) (by kernel_rfl)
    · have h74 := condF hb72 hs70
      refine K.condF (by kernel_rfl) ?_
      refine K.exit 0 (by kernel_rfl) ?_
      refine PJ.passExit ?_
      obtain rfl := Option.some.inj h74
      refine PJ.loopOut (fun e => nomatch e) (fun he83 => ?_)
      have h82 := congrArg some he83
      refine PJ.blockOut ?_
      obtain rfl := Option.some.inj h82
      exact PJ.cutXl [2] (by kernel_rfl) (by kernel_rfl)
  · subst hs
    have h44 := joinX_inl h43
    refine K.seq (by kernel_rfl) ?_
    refine K.region (by kernel_rfl) ?_
    refine RJ.seg 1 [2] (L2 := [(2, .bool true)]) (H2 := []) (by kernel_rfl) ?_
    refine RJ.end (by kernel_rfl) ?_
    refine PJ.next ?_
    refine K.ret (by kernel_rfl) ?_
    obtain rfl := Option.some.inj h44
    exact K.ret0 (.inr rfl) hFn hFH hFD (by kernel_rfl) (by kernel_rfl) (by kernel_rfl)

def slices_Clone (x0 : List Int) : Option (List Int) :=
  (bif (Nat.beq x0.length 0) then agree (some ([] : List Int)) (bif room x0.length then (some x0) else none) else (bif room x0.length then (some x0) else none))
theorem slices_Clone_ok {x0 : List Int} {r : List Int} (h : slices_Clone x0 = some r) : SC Try.prog 28 [lsv (encI .u8) 1 x0] [] (lsv (encI .u8) 1 r) [] := by
  refine K.fn (fn := Try.f28) (by kernel_rfl) (by kernel_rfl) (by kernel_rfl) (by kernel_rfl) (by kernel_rfl) (fun F hFn hFH hFD => ?_)
  unfold slices_Clone at h
  refine K.seq (by kernel_rfl) ?_
  refine K.region (by kernel_rfl) ?_
  refine RJ.seg 1 [0, 2] (L2 := [(0, lsv (encI .u8) 1 x0), (2, .nl)]) (H2 := []) (by kernel_rfl) ?_
  refine RJ.end (by kernel_rfl) ?_
  refine PJ.next ?_
  refine K.seq (by kernel_rfl) ?_
  refine K.seq (by kernel_rfl) ?_
  refine K.region (by kernel_rfl) ?_
  refine RJ.seg 1 [0, 2, 3] (L2 := [(0, lsv (encI .u8) 1 x0), (2, .nl), (3, lsv (encI .u8) 1 x0)]) (H2 := []) (by kernel_rfl) ?_
  refine RJ.isNil (d := 4) (n := x0.length) (eq := true) (by kernel_rfl) (fun b hb3 => ?_)
  cases b
  · have h2 := agreeF h
    refine RJ.end (by kernel_rfl) ?_
    refine PJ.next ?_
    refine K.condF (by kernel_rfl) ?_
    refine K.skip (by kernel_rfl) ?_
    refine PJ.next ?_
    refine K.seq (by kernel_rfl) ?_
    refine K.region (by kernel_rfl) ?_
    refine RJ.seg 2 [2, 5, 6] (L2 := [(2, .nl), (5, .nl), (6, lsv (encI .u8) 1 x0)]) (H2 := []) (by kernel_rfl) ?_
    obtain ⟨hm, h4⟩ := asrt h2
    refine RJ.rel (d := (some 7)) (ef := ⟨.vc 0, [], [(0, .vec x0.length 1 5 (x0.flatMap (encI .u8)))]⟩) (ef' := ⟨.vc 0, [], [(0, .vec x0.length 1 5 (x0.flatMap (encI .u8)))]⟩) (c := room x0.length) (tr2 := []) (H2 := [vecL (encI .u8) 1 5 x0]) (by kernel_rfl) hm (fun hc => rfl) (by kernel_rfl) ?_
    refine RJ.seg 1 [2] (L2 := [(2, .vc 0)]) (H2 := [vecL (encI .u8) 1 5 x0]) (by kernel_rfl) ?_
    refine RJ.end (by kernel_rfl) ?_
    refine PJ.next ?_
    refine K.ret (by kernel_rfl) ?_
    obtain rfl := Option.some.inj h4
    refine PJ.wk (Wk.freeze 0 (n := x0.length) (k := 1) (e := 5) (cs := x0.flatMap (encI .u8)) (by kernel_rfl)) ?_
    exact K.ret0 (.inr rfl) hFn hFH hFD (by kernel_rfl) (by kernel_rfl) (by kernel_rfl)
  · have h1 := agreeT (by rw [hb3 rfl]; rfl) h
    refine RJ.end (by kernel_rfl) ?_
    refine PJ.next ?_
    refine K.condT (by kernel_rfl) ?_
    refine K.seq (by kernel_rfl) ?_
    refine K.region (by kernel_rfl) ?_
    refine RJ.seg 1 [0, 2] (L2 := [(0, lsv (encI .u8) 1 x0), (2, .nl)]) (H2 := []) (by kernel_rfl) ?_
    refine RJ.end (by kernel_rfl) ?_
    refine PJ.next ?_
    refine K.ret (by kernel_rfl) ?_
    refine PJ.passRet ?_
    obtain rfl := Option.some.inj h1
    refine PJ.res (v1 := .nl) (Le.nl _) ?_
    exact K.ret0 (.inr rfl) hFn hFH hFD (by kernel_rfl) (by kernel_rfl) (by kernel_rfl)

def oper_strip (x0 : List Int) : Option (List Int) :=
  (Option.bind (loopN (fun (s141 : (List Int)) => (Option.bind (Option.bind (bif (decide ((s141.length : Int) > 0)) then (bif inR 0 s141.length then (some ((decide ((nth s141 0) = 0)))) else none) else (some false)) fun (s260 : Bool) => (bif s260 then (some (.inl ())) else (some (.inr (.inr s141))))) (joinX fun (s251 : Unit) => (bif inS 1 (s141.length : Int) s141.length then (some (.inl (cut s141 1 (s141.length : Int)))) else none)))) big x0) fun (s136 : (List Int)) => (Option.bind (slices_Clone s136) fun y276 => (some y276)))
theorem oper_strip_ok {x0 : List Int} {r : List Int} (h : oper_strip x0 = some r) : SC Try.prog 27 [lsv (encI .u8) 1 x0] [] (lsv (encI .u8) 1 r) [] := by
  refine K.fn (fn := Try.f27) (by kernel_rfl) (by kernel_rfl) (by kernel_rfl) (by kernel_rfl) (by kernel_rfl) (fun F hFn hFH hFD => ?_)
  unfold oper_strip at h
  refine K.seq (by kernel_rfl) ?_
  refine K.region (by kernel_rfl) ?_
  refine RJ.seg 1 [0, 2] (L2 := [(0, lsv (encI .u8) 1 x0), (2, .nl)]) (H2 := []) (by kernel_rfl) ?_
  refine RJ.end (by kernel_rfl) ?_
  refine PJ.next ?_
  obtain ⟨s136, hy138, h140⟩ := bindS h
  refine K.cutN (by kernel_rfl) (fun (s136 : (List Int)) => ([(0, lsv (encI .u8) 1 s136), (2, .nl)], [])) s136 ?_ ?_
  · refine K.block 0 (by kernel_rfl) ?_
    refine K.loop (by kernel_rfl) (fun (s141 : (List Int)) => ([(0, lsv (encI .u8) 1 s141), (2, .nl)], [])) hy138 [0, 2] (by kernel_rfl) (by kernel_rfl) (fun s141 x231 hs230 => ?_)
    obtain ⟨y252, hy253, h254⟩ := bindS hs230
    refine K.cutX (by kernel_rfl) (fun (s251 : Unit) => ([(0, lsv (encI .u8) 1 s141), (2, .nl)], [])) y252 ?_ (fun s251 hs => ?_)
    · obtain ⟨s260, hy262, h264⟩ := bindS hy253
      refine K.cutN (by kernel_rfl) (fun (s260 : Bool) => ([(0, lsv (encI .u8) 1 s141), (2, .nl), (11, .bool s260)], [])) s260 ?_ ?_
      · refine K.region (by kernel_rfl) ?_
        refine RJ.seg 4 [0, 2, 6] (L2 := [(0, lsv (encI .u8) 1 s141), (2, .nl), (6, .bool ((decide ((s141.length : Int) > 0))))]) (H2 := []) (by kernel_rfl) ?_
        refine RJ.caseB 6 (b := (decide ((s141.length : Int) > 0))) (by kernel_rfl) (fun hb265 => ?_) (fun hb265 => ?_)
        · have h266 := condT hb265 hy262
          refine RJ.seg 1 [0, 2, 6, 7] (L2 := [(0, lsv (encI .u8) 1 s141), (2, .nl), (6, .bool true), (7, lsv (encI .u8) 1 s141)]) (H2 := []) (by kernel_rfl) ?_
          obtain ⟨hm, h268⟩ := asrt h266
          refine RJ.rel (d := (some 8)) (ef := ⟨.ep (((s141.flatMap (encI .u8)).drop ((0 : Int).toNat * 1)).take 1), [], []⟩) (ef' := ⟨.ep ((encI .u8) (nth s141 0)), [], []⟩) (c := inR 0 s141.length) (tr2 := []) (H2 := []) (by kernel_rfl) hm (fun hc => N.idx (encI_len .u8) hc) (by kernel_rfl) ?_
          refine RJ.seg 3 [0, 2, 11] (L2 := [(0, lsv (encI .u8) 1 s141), (2, .nl), (11, .bool ((decide ((nth s141 0) = 0))))]) (H2 := []) (by kernel_rfl) ?_
          refine RJ.end (by kernel_rfl) ?_
          obtain rfl := Option.some.inj h268
          exact PJ.cutN [0, 2, 11] (by kernel_rfl) (by kernel_rfl)
        · have h267 := condF hb265 hy262
          refine RJ.seg 5 [0, 2, 11] (L2 := [(0, lsv (encI .u8) 1 s141), (2, .nl), (11, .bool false)]) (H2 := []) (by kernel_rfl) ?_
          refine RJ.end (by kernel_rfl) ?_
          obtain rfl := Option.some.inj h267
          exact PJ.cutN [0, 2, 11] (by kernel_rfl) (by kernel_rfl)
      · refine J.caseB 11 (b := s260) (by kernel_rfl) (fun hb269 => ?_) (fun hb269 => ?_)
        · have h270 := condT hb269 h264
          refine K.condT (by kernel_rfl) ?_
          refine K.skip (by kernel_rfl) ?_
          obtain rfl := Option.some.inj h270
          exact PJ.cutXl [0, 2] (by kernel_rfl) (by kernel_rfl)
        · have h271 := condF hb269 h264
          refine K.condF (by kernel_rfl) ?_
          refine K.exit 0 (by kernel_rfl) ?_
          obtain rfl := Option.some.inj h271
          have h272 := joinX_inr h254
          refine PJ.cutXr (fun e => nomatch e) ?_
          obtain rfl := Option.some.inj h272
          refine PJ.loopOut (fun e => nomatch e) (fun he274 => ?_)
          have h273 := congrArg some he274
          refine PJ.blockOut ?_
          obtain rfl := Option.some.inj h273
          exact PJ.cutN [0, 2] (by kernel_rfl) (by kernel_rfl)
    · subst hs
      have h255 := joinX_inl h254
      refine K.block 1 (by kernel_rfl) ?_
      refine K.region (by kernel_rfl) ?_
      refine RJ.seg 1 [0, 2, 12] (L2 := [(0, lsv (encI .u8) 1 s141), (2, .nl), (12, lsv (encI .u8) 1 s141)]) (H2 := []) (by kernel_rfl) ?_
      obtain ⟨hm, h275⟩ := asrt h255
      refine RJ.rel (d := (some 13)) (ef := ⟨.lst (((s141.length : Int) : Int).toNat - (1 : Int).toNat) 1 (((s141.flatMap (encI .u8)).take (((s141.length : Int) : Int).toNat * 1)).drop ((1 : Int).toNat * 1)), [], []⟩) (ef' := ⟨.lst (cut s141 1 (s141.length : Int)).length 1 ((cut s141 1 (s141.length : Int)).flatMap (encI .u8)), [], []⟩) (c := inS 1 (s141.length : Int) s141.length) (tr2 := []) (H2 := []) (by kernel_rfl) hm (fun hc => N.slice (encI_len .u8) hc) (by kernel_rfl) ?_
      refine RJ.seg 1 [0, 2] (L2 := [(0, lsv (encI .u8) 1 (cut s141 1 (s141.length : Int))), (2, .nl)]) (H2 := []) (by kernel_rfl) ?_
      refine RJ.end (by kernel_rfl) ?_
      refine PJ.blockNormal ?_
      obtain rfl := Option.some.inj h275
      exact PJ.loopNext [0, 2] (by kernel_rfl) (by kernel_rfl)
  · refine K.seq (by kernel_rfl) ?_
    refine K.region (by kernel_rfl) ?_
    refine RJ.seg 1 [2, 14] (L2 := [(2, .nl), (14, lsv (encI .u8) 1 s136)]) (H2 := []) (by kernel_rfl) ?_
    obtain ⟨y276, hy277, h278⟩ := bindS h140
    refine RJ.call0 (d := (some 15)) (f := 28) (args := [lsv (encI .u8) 1 s136]) (v := lsv (encI .u8) 1 y276) (tr2 := []) (by kernel_rfl) (by kernel_rfl) (.cons (Le.refl _) .nil) (slices_Clone_ok hy277) (by kernel_rfl) ?_
    refine RJ.seg 1 [2] (L2 := [(2, lsv (encI .u8) 1 y276)]) (H2 := []) (by kernel_rfl) ?_
    refine RJ.end (by kernel_rfl) ?_
    refine PJ.next ?_
    refine K.ret (by kernel_rfl) ?_
    obtain rfl := Option.some.inj h278
    exact K.ret0 (.inr rfl) hFn hFH hFD (by kernel_rfl) (by kernel_rfl) (by kernel_rfl)

def oper_shown (x0 : List Int) : Option (Int) :=
  (Option.bind (loopN (fun (s138 : Int) => (Option.bind (Option.bind (bif (decide (s138 > 0)) then (bif inR (IntKind.wrap .i64 (s138 - 1)) x0.length then (some ((decide (((nth x0 (IntKind.wrap .i64 (s138 - 1)))) = 0)))) else none) else (some false)) fun (s255 : Bool) => (bif s255 then (some (.inl ())) else (some (.inr (.inr s138))))) (joinX fun (s246 : Unit) => (some (.inl (IntKind.wrap .i64 (s138 - 1))))))) big (x0.length : Int)) fun (s133 : Int) => (some s133))
theorem oper_shown_ok {x0 : List Int} {r : Int} (h : oper_shown x0 = some r) : SC Try.prog 29 [lsv (encI .u8) 1 x0] [] (.int .i64 r) [] := by
  refine K.fn (fn := Try.f29) (by kernel_rfl) (by kernel_rfl) (by kernel_rfl) (by kernel_rfl) (by kernel_rfl) (fun F hFn hFH hFD => ?_)
  unfold oper_shown at h
  refine K.seq (by kernel_rfl) ?_
  refine K.region (by kernel_rfl) ?_
  refine RJ.seg 1 [0, 2] (L2 := [(0, lsv (encI .u8) 1 x0), (2, .int .i64 0)]) (H2 := []) (by kernel_rfl) ?_
  refine RJ.end (by kernel_rfl) ?_
  refine PJ.next ?_
  refine K.seq (by kernel_rfl) ?_
  refine K.region (by kernel_rfl) ?_
  refine RJ.seg 3 [0, 2, 3] (L2 := [(0, lsv (encI .u8) 1 x0), (2, .int .i64 0), (3, .int .i64 (x0.length : Int))]) (H2 := []) (by kernel_rfl) ?_
  refine RJ.end (by kernel_rfl) ?_
  refine PJ.next ?_
  obtain ⟨s133, hy135, h137⟩ := bindS h
  refine K.cutN (by kernel_rfl) (fun (s133 : Int) => ([(2, .int .i64 0), (3, .int .i64 s133)], [])) s133 ?_ ?_
  · refine K.block 0 (by kernel_rfl) ?_
    refine K.loop (by kernel_rfl) (fun (s138 : Int) => ([(0, lsv (encI .u8) 1 x0), (2, .int .i64 0), (3, .int .i64 s138)], [])) hy135 [0, 2, 3] (by kernel_rfl) (by kernel_rfl) (fun s138 x226 hs225 => ?_)
    obtain ⟨y247, hy248, h249⟩ := bindS hs225
    refine K.cutX (by kernel_rfl) (fun (s246 : Unit) => ([(0, lsv (encI .u8) 1 x0), (2, .int .i64 0), (3, .int .i64 s138)], [])) y247 ?_ (fun s246 hs => ?_)
    · obtain ⟨s255, hy257, h259⟩ := bindS hy248
      refine K.cutN (by kernel_rfl) (fun (s255 : Bool) => ([(0, lsv (encI .u8) 1 x0), (2, .int .i64 0), (3, .int .i64 s138), (15, .bool s255)], [])) s255 ?_ ?_
      · refine K.region (by kernel_rfl) ?_
        refine RJ.seg 3 [0, 2, 3, 8] (L2 := [(0, lsv (encI .u8) 1 x0), (2, .int .i64 0), (3, .int .i64 s138), (8, .bool (decide (s138 > 0)))]) (H2 := []) (by kernel_rfl) ?_
        refine RJ.caseB 8 (b := (decide (s138 > 0))) (by kernel_rfl) (fun hb260 => ?_) (fun hb260 => ?_)
        · have h261 := condT hb260 hy257
          refine RJ.seg 3 [0, 2, 3, 8, 9, 11] (L2 := [(0, lsv (encI .u8) 1 x0), (2, .int .i64 0), (3, .int .i64 s138), (8, .bool true), (9, lsv (encI .u8) 1 x0), (11, .int .i64 (IntKind.wrap .i64 (s138 - 1)))]) (H2 := []) (by kernel_rfl) ?_
          obtain ⟨hm, h263⟩ := asrt h261
          refine RJ.rel (d := (some 12)) (ef := ⟨.ep (((x0.flatMap (encI .u8)).drop (((IntKind.wrap .i64 (s138 - 1)) : Int).toNat * 1)).take 1), [], []⟩) (ef' := ⟨.ep ((encI .u8) (nth x0 (IntKind.wrap .i64 (s138 - 1)))), [], []⟩) (c := inR (IntKind.wrap .i64 (s138 - 1)) x0.length) (tr2 := []) (H2 := []) (by kernel_rfl) hm (fun hc => N.idx (encI_len .u8) hc) (by kernel_rfl) ?_
          refine RJ.seg 3 [0, 2, 3, 15] (L2 := [(0, lsv (encI .u8) 1 x0), (2, .int .i64 0), (3, .int .i64 s138), (15, .bool ((decide (((nth x0 (IntKind.wrap .i64 (s138 - 1)))) = 0))))]) (H2 := []) (by kernel_rfl) ?_
          refine RJ.end (by kernel_rfl) ?_
          obtain rfl := Option.some.inj h263
          exact PJ.cutN [0, 2, 3, 15] (by kernel_rfl) (by kernel_rfl)
        · have h262 := condF hb260 hy257
          refine RJ.seg 7 [0, 2, 3, 15] (L2 := [(0, lsv (encI .u8) 1 x0), (2, .int .i64 0), (3, .int .i64 s138), (15, .bool false)]) (H2 := []) (by kernel_rfl) ?_
          refine RJ.end (by kernel_rfl) ?_
          obtain rfl := Option.some.inj h262
          exact PJ.cutN [0, 2, 3, 15] (by kernel_rfl) (by kernel_rfl)
      · refine J.caseB 15 (b := s255) (by kernel_rfl) (fun hb264 => ?_) (fun hb264 => ?_)
        · have h265 := condT hb264 h259
          refine K.condT (by kernel_rfl) ?_
          refine K.skip (by kernel_rfl) ?_
          obtain rfl := Option.some.inj h265
          exact PJ.cutXl [0, 2, 3] (by kernel_rfl) (by kernel_rfl)
        · have h266 := condF hb264 h259
          refine K.condF (by kernel_rfl) ?_
          refine K.exit 0 (by kernel_rfl) ?_
          obtain rfl := Option.some.inj h266
          have h267 := joinX_inr h249
          refine PJ.cutXr (fun e => nomatch e) ?_
          obtain rfl := Option.some.inj h267
          refine PJ.loopOut (fun e => nomatch e) (fun he269 => ?_)
          have h268 := congrArg some he269
          refine PJ.blockOut ?_
          obtain rfl := Option.some.inj h268
          exact PJ.cutN [2, 3] (by kernel_rfl) (by kernel_rfl)
    · subst hs
      have h250 := joinX_inl h249
      refine K.block 1 (by kernel_rfl) ?_
      refine K.region (by kernel_rfl) ?_
      refine RJ.seg 3 [0, 2, 3] (L2 := [(0, lsv (encI .u8) 1 x0), (2, .int .i64 0), (3, .int .i64 (IntKind.wrap .i64 (s138 - 1)))]) (H2 := []) (by kernel_rfl) ?_
      refine RJ.end (by kernel_rfl) ?_
      refine PJ.blockNormal ?_
      obtain rfl := Option.some.inj h250
      exact PJ.loopNext [0, 2, 3] (by kernel_rfl) (by kernel_rfl)
  · refine K.seq (by kernel_rfl) ?_
    refine K.region (by kernel_rfl) ?_
    refine RJ.seg 2 [2] (L2 := [(2, .int .i64 s133)]) (H2 := []) (by kernel_rfl) ?_
    refine RJ.end (by kernel_rfl) ?_
    refine PJ.next ?_
    refine K.ret (by kernel_rfl) ?_
    obtain rfl := Option.some.inj h137
    exact K.ret0 (.inr rfl) hFn hFH hFD (by kernel_rfl) (by kernel_rfl) (by kernel_rfl)

def oper_Of (x0 : List Int) (x1 : List Int) (x2 : Int) : Option (St23 × Int) :=
  (Option.bind (Option.bind (Option.bind (oper_figures x0) fun y65 => (bif (!y65) then (some true) else (Option.bind (oper_figures x1) fun y71 => (bif (!y71) then (some true) else (bif (decide (x2 < 0)) then (some true) else (some (decide (x2 > 1000)))))))) fun (s60 : Bool) => (bif s60 then (some (.inr ((⟨([] : List Int), ([] : List Int), 0, 0⟩ : St23), 1))) else (some (.inl ())))) (joinX fun (s40 : Unit) => (Option.bind (oper_strip x0) fun y84 => (Option.bind (slices_Clone x1) fun y87 => (Option.bind (oper_shown x1) fun y90 => (some ((⟨y84, y87, y90, x2⟩ : St23), 0)))))))
theorem oper_Of_ok {x0 : List Int} {x1 : List Int} {x2 : Int} {r : St23 × Int} (h : oper_Of x0 x1 x2 = some r) : SC Try.prog 12 [lsv (encI .u8) 1 x0, lsv (encI .u8) 1 x1, .int .i64 x2] [] (.tup [.agg [lsv (encI .u8) 1 r.1.I_, lsv (encI .u8) 1 r.1.F_, .int .i64 r.1.W_, .int .i64 r.1.C_], .int .i64 r.2]) [] := by
  refine K.fn (fn := Try.f12) (by kernel_rfl) (by kernel_rfl) (by kernel_rfl) (by kernel_rfl) (by kernel_rfl) (fun F hFn hFH hFD => ?_)
  unfold oper_Of at h
  refine K.seq (by kernel_rfl) ?_
  refine K.region (by kernel_rfl) ?_
  refine RJ.seg 2 [0, 1, 2, 6, 7] (L2 := [(0, lsv (encI .u8) 1 x0), (1, lsv (encI .u8) 1 x1), (2, .int .i64 x2), (6, .ptr 0 0), (7, .int .i64 0)]) (H2 := [.box [.nl, .nl, .int .i64 0, .int .i64 0]]) (by kernel_rfl) ?_
  refine RJ.end (by kernel_rfl) ?_
  refine PJ.next ?_
  obtain ⟨y41, hy42, h43⟩ := bindS h
  refine K.cutX (by kernel_rfl) (fun (s40 : Unit) => ([(0, lsv (encI .u8) 1 x0), (1, lsv (encI .u8) 1 x1), (2, .int .i64 x2), (6, .ptr 0 0), (7, .int .i64 0)], [.box [.nl, .nl, .int .i64 0, .int .i64 0]])) y41 ?_ (fun s40 hs => ?_)
  · obtain ⟨s60, hy62, h64⟩ := bindS hy42
    refine K.cutN (by kernel_rfl) (fun (s60 : Bool) => ([(0, lsv (encI .u8) 1 x0), (1, lsv (encI .u8) 1 x1), (2, .int .i64 x2), (6, .ptr 0 0), (7, .int .i64 0), (23, .bool s60)], [.box [.nl, .nl, .int .i64 0, .int .i64 0]])) s60 ?_ ?_
    · refine K.region (by kernel_rfl) ?_
      refine RJ.seg 1 [0, 1, 2, 6, 7, 8] (L2 := [(0, lsv (encI .u8) 1 x0), (1, lsv (encI .u8) 1 x1), (2, .int .i64 x2), (6, .ptr 0 0), (7, .int .i64 0), (8, lsv (encI .u8) 1 x0)]) (H2 := [.box [.nl, .nl, .int .i64 0, .int .i64 0]]) (by kernel_rfl) ?_
      obtain ⟨y65, hy66, h67⟩ := bindS hy62
      refine RJ.call0 (d := (some 9)) (f := 26) (args := [lsv (encI .u8) 1 x0]) (v := .bool y65) (tr2 := []) (by kernel_rfl) (by kernel_rfl) (.cons (Le.refl _) .nil) (oper_figures_ok hy66) (by kernel_rfl) ?_
      refine RJ.seg 2 [0, 1, 2, 6, 7, 11] (L2 := [(0, lsv (encI .u8) 1 x0), (1, lsv (encI .u8) 1 x1), (2, .int .i64 x2), (6, .ptr 0 0), (7, .int .i64 0), (11, .bool (!y65))]) (H2 := [.box [.nl, .nl, .int .i64 0, .int .i64 0]]) (by kernel_rfl) ?_
      refine RJ.caseB 11 (b := (!y65)) (by kernel_rfl) (fun hb68 => ?_) (fun hb68 => ?_)
      · have h69 := condT hb68 h67
        refine RJ.seg 12 [0, 1, 2, 6, 7, 23] (L2 := [(0, lsv (encI .u8) 1 x0), (1, lsv (encI .u8) 1 x1), (2, .int .i64 x2), (6, .ptr 0 0), (7, .int .i64 0), (23, .bool true)]) (H2 := [.box [.nl, .nl, .int .i64 0, .int .i64 0]]) (by kernel_rfl) ?_
        refine RJ.end (by kernel_rfl) ?_
        obtain rfl := Option.some.inj h69
        exact PJ.cutN [0, 1, 2, 6, 7, 23] (by kernel_rfl) (by kernel_rfl)
      · have h70 := condF hb68 h67
        refine RJ.seg 1 [0, 1, 2, 6, 7, 11, 12] (L2 := [(0, lsv (encI .u8) 1 x0), (1, lsv (encI .u8) 1 x1), (2, .int .i64 x2), (6, .ptr 0 0), (7, .int .i64 0), (11, .bool false), (12, lsv (encI .u8) 1 x1)]) (H2 := [.box [.nl, .nl, .int .i64 0, .int .i64 0]]) (by kernel_rfl) ?_
        obtain ⟨y71, hy72, h73⟩ := bindS h70
        refine RJ.call0 (d := (some 13)) (f := 26) (args := [lsv (encI .u8) 1 x1]) (v := .bool y71) (tr2 := []) (by kernel_rfl) (by kernel_rfl) (.cons (Le.refl _) .nil) (oper_figures_ok hy72) (by kernel_rfl) ?_
        refine RJ.seg 3 [0, 1, 2, 6, 7, 16] (L2 := [(0, lsv (encI .u8) 1 x0), (1, lsv (encI .u8) 1 x1), (2, .int .i64 x2), (6, .ptr 0 0), (7, .int .i64 0), (16, .bool (!y71))]) (H2 := [.box [.nl, .nl, .int .i64 0, .int .i64 0]]) (by kernel_rfl) ?_
        refine RJ.caseB 16 (b := (!y71)) (by kernel_rfl) (fun hb74 => ?_) (fun hb74 => ?_)
        · have h75 := condT hb74 h73
          refine RJ.seg 7 [0, 1, 2, 6, 7, 23] (L2 := [(0, lsv (encI .u8) 1 x0), (1, lsv (encI .u8) 1 x1), (2, .int .i64 x2), (6, .ptr 0 0), (7, .int .i64 0), (23, .bool true)]) (H2 := [.box [.nl, .nl, .int .i64 0, .int .i64 0]]) (by kernel_rfl) ?_
          refine RJ.end (by kernel_rfl) ?_
          obtain rfl := Option.some.inj h75
          exact PJ.cutN [0, 1, 2, 6, 7, 23] (by kernel_rfl) (by kernel_rfl)
        · have h76 := condF hb74 h73
          refine RJ.seg 4 [0, 1, 2, 6, 7, 20] (L2 := [(0, lsv (encI .u8) 1 x0), (1, lsv (encI .u8) 1 x1), (2, .int .i64 x2), (6, .ptr 0 0), (7, .int .i64 0), (20, .bool (decide (x2 < 0)))]) (H2 := [.box [.nl, .nl, .int .i64 0, .int .i64 0]]) (by kernel_rfl) ?_
          refine RJ.caseB 20 (b := (decide (x2 < 0))) (by kernel_rfl) (fun hb77 => ?_) (fun hb77 => ?_)
          · have h78 := condT hb77 h76
            refine RJ.seg 3 [0, 1, 2, 6, 7, 23] (L2 := [(0, lsv (encI .u8) 1 x0), (1, lsv (encI .u8) 1 x1), (2, .int .i64 x2), (6, .ptr 0 0), (7, .int .i64 0), (23, .bool true)]) (H2 := [.box [.nl, .nl, .int .i64 0, .int .i64 0]]) (by kernel_rfl) ?_
            refine RJ.end (by kernel_rfl) ?_
            obtain rfl := Option.some.inj h78
            exact PJ.cutN [0, 1, 2, 6, 7, 23] (by kernel_rfl) (by kernel_rfl)
          · have h79 := condF hb77 h76
            refine RJ.seg 3 [0, 1, 2, 6, 7, 23] (L2 := [(0, lsv (encI .u8) 1 x0), (1, lsv (encI .u8) 1 x1), (2, .int .i64 x2), (6, .ptr 0 0), (7, .int .i64 0), (23, .bool (decide (x2 > 1000)))]) (H2 := [.box [.nl, .nl, .int .i64 0, .int .i64 0]]) (by kernel_rfl) ?_
            refine RJ.end (by kernel_rfl) ?_
            obtain rfl := Option.some.inj h79
            exact PJ.cutN [0, 1, 2, 6, 7, 23] (by kernel_rfl) (by kernel_rfl)
    · refine J.caseB 23 (b := s60) (by kernel_rfl) (fun hb80 => ?_) (fun hb80 => ?_)
      · have h81 := condT hb80 h64
        refine K.condT (by kernel_rfl) ?_
        refine K.seq (by kernel_rfl) ?_
        refine K.region (by kernel_rfl) ?_
        refine RJ.seg 3 [0, 1, 2, 6, 7] (L2 := [(0, lsv (encI .u8) 1 x0), (1, lsv (encI .u8) 1 x1), (2, .int .i64 x2), (6, .ptr 0 0), (7, .int .i64 1)]) (H2 := [.box [.nl, .nl, .int .i64 0, .int .i64 0]]) (by kernel_rfl) ?_
        refine RJ.end (by kernel_rfl) ?_
        refine PJ.next ?_
        refine K.ret (by kernel_rfl) ?_
        obtain rfl := Option.some.inj h81
        have h83 := joinX_inr h43
        refine PJ.cutXr (fun e => nomatch e) ?_
        obtain rfl := Option.some.inj h83
        refine PJ.res (v1 := .tup [.agg [.nl, .nl, .int .i64 0, .int .i64 0], .int .i64 1]) (Le.tup (.cons (Le.agg (.cons (Le.nl _) (.cons (Le.nl _) (.cons (Le.refl _) (.cons (Le.refl _) .nil))))) (.cons (Le.refl _) .nil))) ?_
        exact K.ret0 (.inr rfl) hFn hFH hFD (by kernel_rfl) (by kernel_rfl) (by kernel_rfl)
      · have h82 := condF hb80 h64
        refine K.condF (by kernel_rfl) ?_
        refine K.skip (by kernel_rfl) ?_
        obtain rfl := Option.some.inj h82
        exact PJ.cutXl [0, 1, 2, 6, 7] (by kernel_rfl) (by kernel_rfl)
  · subst hs
    have h44 := joinX_inl h43
    refine K.seq (by kernel_rfl) ?_
    refine K.region (by kernel_rfl) ?_
    refine RJ.seg 1 [1, 2, 6, 7, 25] (L2 := [(1, lsv (encI .u8) 1 x1), (2, .int .i64 x2), (6, .ptr 0 0), (7, .int .i64 0), (25, lsv (encI .u8) 1 x0)]) (H2 := [.box [.nl, .nl, .int .i64 0, .int .i64 0]]) (by kernel_rfl) ?_
    obtain ⟨y84, hy85, h86⟩ := bindS h44
    refine RJ.call0 (d := (some 26)) (f := 27) (args := [lsv (encI .u8) 1 x0]) (v := lsv (encI .u8) 1 y84) (tr2 := []) (by kernel_rfl) (by kernel_rfl) (.cons (Le.refl _) .nil) (oper_strip_ok hy85) (by kernel_rfl) ?_
    refine RJ.seg 1 [1, 2, 6, 7, 26, 27] (L2 := [(1, lsv (encI .u8) 1 x1), (2, .int .i64 x2), (6, .ptr 0 0), (7, .int .i64 0), (26, lsv (encI .u8) 1 y84), (27, lsv (encI .u8) 1 x1)]) (H2 := [.box [.nl, .nl, .int .i64 0, .int .i64 0]]) (by kernel_rfl) ?_
    obtain ⟨y87, hy88, h89⟩ := bindS h86
    refine RJ.call0 (d := (some 28)) (f := 28) (args := [lsv (encI .u8) 1 x1]) (v := lsv (encI .u8) 1 y87) (tr2 := []) (by kernel_rfl) (by kernel_rfl) (.cons (Le.refl _) .nil) (slices_Clone_ok hy88) (by kernel_rfl) ?_
    refine RJ.seg 1 [2, 6, 7, 26, 28, 29] (L2 := [(2, .int .i64 x2), (6, .ptr 0 0), (7, .int .i64 0), (26, lsv (encI .u8) 1 y84), (28, lsv (encI .u8) 1 y87), (29, lsv (encI .u8) 1 x1)]) (H2 := [.box [.nl, .nl, .int .i64 0, .int .i64 0]]) (by kernel_rfl) ?_
    obtain ⟨y90, hy91, h92⟩ := bindS h89
    refine RJ.call0 (d := (some 30)) (f := 29) (args := [lsv (encI .u8) 1 x1]) (v := .int .i64 y90) (tr2 := []) (by kernel_rfl) (by kernel_rfl) (.cons (Le.refl _) .nil) (oper_shown_ok hy91) (by kernel_rfl) ?_
    refine RJ.seg 4 [6, 7] (L2 := [(6, .ptr 0 0), (7, .int .i64 0)]) (H2 := [.box [lsv (encI .u8) 1 y84, lsv (encI .u8) 1 y87, .int .i64 y90, .int .i64 x2]]) (by kernel_rfl) ?_
    refine RJ.end (by kernel_rfl) ?_
    refine PJ.next ?_
    refine K.ret (by kernel_rfl) ?_
    obtain rfl := Option.some.inj h92
    exact K.ret0 (.inr rfl) hFn hFH hFD (by kernel_rfl) (by kernel_rfl) (by kernel_rfl)

def oper_Right (x0 : St23) : Option (Bool) :=
  (Option.bind (Option.bind (Option.bind (oper_figures x0.I_) fun y68 => (bif (!y68) then (some true) else (Option.bind (oper_figures x0.F_) fun y74 => (bif (!y74) then (some true) else (bif (decide ((x0.I_.length : Int) > 0)) then (bif inR 0 x0.I_.length then (some ((decide ((nth x0.I_ 0) = 0)))) else none) else (some false)))))) fun (s63 : Bool) => (bif s63 then (some (.inr false)) else (some (.inl ())))) (joinX fun (s42 : Unit) => (Option.bind (Option.bind (oper_shown x0.F_) fun y102 => (bif (decide (x0.W_ = y102)) then (bif (decide (x0.C_ ≥ 0)) then (some (decide (x0.C_ ≤ 1000))) else (some false)) else (some false))) fun (s97 : Bool) => (some s97))))
theorem oper_Right_ok {x0 : St23} {r : Bool} (h : oper_Right x0 = some r) : SC Try.prog 16 [.agg [lsv (encI .u8) 1 x0.I_, lsv (encI .u8) 1 x0.F_, .int .i64 x0.W_, .int .i64 x0.C_]] [] (.bool r) [] := by
  refine K.fn (fn := Try.f16) (by kernel_rfl) (by kernel_rfl) (by kernel_rfl) (by kernel_rfl) (by kernel_rfl) (fun F hFn hFH hFD => ?_)
  unfold oper_Right at h
  refine K.seq (by kernel_rfl) ?_
  refine K.region (by kernel_rfl) ?_
  refine RJ.seg 2 [1, 2] (L2 := [(1, .ptr 0 0), (2, .bool false)]) (H2 := [.box [lsv (encI .u8) 1 x0.I_, lsv (encI .u8) 1 x0.F_, .int .i64 x0.W_, .int .i64 x0.C_]]) (by kernel_rfl) ?_
  refine RJ.end (by kernel_rfl) ?_
  refine PJ.next ?_
  obtain ⟨y43, hy44, h45⟩ := bindS h
  refine K.cutX (by kernel_rfl) (fun (s42 : Unit) => ([(1, .ptr 0 0), (2, .bool false)], [.box [lsv (encI .u8) 1 x0.I_, lsv (encI .u8) 1 x0.F_, .int .i64 x0.W_, .int .i64 x0.C_]])) y43 ?_ (fun s42 hs => ?_)
  · obtain ⟨s63, hy65, h67⟩ := bindS hy44
    refine K.cutN (by kernel_rfl) (fun (s63 : Bool) => ([(1, .ptr 0 0), (2, .bool false), (25, .bool s63)], [.box [lsv (encI .u8) 1 x0.I_, lsv (encI .u8) 1 x0.F_, .int .i64 x0.W_, .int .i64 x0.C_]])) s63 ?_ ?_
    · refine K.region (by kernel_rfl) ?_
      refine RJ.seg 2 [1, 2, 4] (L2 := [(1, .ptr 0 0), (2, .bool false), (4, lsv (encI .u8) 1 x0.I_)]) (H2 := [.box [lsv (encI .u8) 1 x0.I_, lsv (encI .u8) 1 x0.F_, .int .i64 x0.W_, .int .i64 x0.C_]]) (by kernel_rfl) ?_
      obtain ⟨y68, hy69, h70⟩ := bindS hy65
      refine RJ.call0 (d := (some 5)) (f := 26) (args := [lsv (encI .u8) 1 x0.I_]) (v := .bool y68) (tr2 := []) (by kernel_rfl) (by kernel_rfl) (.cons (Le.refl _) .nil) (oper_figures_ok hy69) (by kernel_rfl) ?_
      refine RJ.seg 2 [1, 2, 7] (L2 := [(1, .ptr 0 0), (2, .bool false), (7, .bool (!y68))]) (H2 := [.box [lsv (encI .u8) 1 x0.I_, lsv (encI .u8) 1 x0.F_, .int .i64 x0.W_, .int .i64 x0.C_]]) (by kernel_rfl) ?_
      refine RJ.caseB 7 (b := (!y68)) (by kernel_rfl) (fun hb71 => ?_) (fun hb71 => ?_)
      · have h72 := condT hb71 h70
        refine RJ.seg 18 [1, 2, 25] (L2 := [(1, .ptr 0 0), (2, .bool false), (25, .bool true)]) (H2 := [.box [lsv (encI .u8) 1 x0.I_, lsv (encI .u8) 1 x0.F_, .int .i64 x0.W_, .int .i64 x0.C_]]) (by kernel_rfl) ?_
        refine RJ.end (by kernel_rfl) ?_
        obtain rfl := Option.some.inj h72
        exact PJ.cutN [1, 2, 25] (by kernel_rfl) (by kernel_rfl)
      · have h73 := condF hb71 h70
        refine RJ.seg 2 [1, 2, 7, 9] (L2 := [(1, .ptr 0 0), (2, .bool false), (7, .bool false), (9, lsv (encI .u8) 1 x0.F_)]) (H2 := [.box [lsv (encI .u8) 1 x0.I_, lsv (encI .u8) 1 x0.F_, .int .i64 x0.W_, .int .i64 x0.C_]]) (by kernel_rfl) ?_
        obtain ⟨y74, hy75, h76⟩ := bindS h73
        refine RJ.call0 (d := (some 10)) (f := 26) (args := [lsv (encI .u8) 1 x0.F_]) (v := .bool y74) (tr2 := []) (by kernel_rfl) (by kernel_rfl) (.cons (Le.refl _) .nil) (oper_figures_ok hy75) (by kernel_rfl) ?_
        refine RJ.seg 3 [1, 2, 13] (L2 := [(1, .ptr 0 0), (2, .bool false), (13, .bool (!y74))]) (H2 := [.box [lsv (encI .u8) 1 x0.I_, lsv (encI .u8) 1 x0.F_, .int .i64 x0.W_, .int .i64 x0.C_]]) (by kernel_rfl) ?_
        refine RJ.caseB 13 (b := (!y74)) (by kernel_rfl) (fun hb77 => ?_) (fun hb77 => ?_)
        · have h78 := condT hb77 h76
          refine RJ.seg 12 [1, 2, 25] (L2 := [(1, .ptr 0 0), (2, .bool false), (25, .bool true)]) (H2 := [.box [lsv (encI .u8) 1 x0.I_, lsv (encI .u8) 1 x0.F_, .int .i64 x0.W_, .int .i64 x0.C_]]) (by kernel_rfl) ?_
          refine RJ.end (by kernel_rfl) ?_
          obtain rfl := Option.some.inj h78
          exact PJ.cutN [1, 2, 25] (by kernel_rfl) (by kernel_rfl)
        · have h79 := condF hb77 h76
          refine RJ.seg 5 [1, 2, 13, 18] (L2 := [(1, .ptr 0 0), (2, .bool false), (13, .bool false), (18, .bool ((decide ((x0.I_.length : Int) > 0))))]) (H2 := [.box [lsv (encI .u8) 1 x0.I_, lsv (encI .u8) 1 x0.F_, .int .i64 x0.W_, .int .i64 x0.C_]]) (by kernel_rfl) ?_
          refine RJ.caseB 18 (b := (decide ((x0.I_.length : Int) > 0))) (by kernel_rfl) (fun hb80 => ?_) (fun hb80 => ?_)
          · have h81 := condT hb80 h79
            refine RJ.seg 2 [1, 2, 13, 18, 20] (L2 := [(1, .ptr 0 0), (2, .bool false), (13, .bool false), (18, .bool true), (20, lsv (encI .u8) 1 x0.I_)]) (H2 := [.box [lsv (encI .u8) 1 x0.I_, lsv (encI .u8) 1 x0.F_, .int .i64 x0.W_, .int .i64 x0.C_]]) (by kernel_rfl) ?_
            obtain ⟨hm, h83⟩ := asrt h81
            refine RJ.rel (d := (some 21)) (ef := ⟨.ep (((x0.I_.flatMap (encI .u8)).drop ((0 : Int).toNat * 1)).take 1), [], []⟩) (ef' := ⟨.ep ((encI .u8) (nth x0.I_ 0)), [], []⟩) (c := inR 0 x0.I_.length) (tr2 := []) (H2 := [.box [lsv (encI .u8) 1 x0.I_, lsv (encI .u8) 1 x0.F_, .int .i64 x0.W_, .int .i64 x0.C_]]) (by kernel_rfl) hm (fun hc => N.idx (encI_len .u8) hc) (by kernel_rfl) ?_
            refine RJ.seg 4 [1, 2, 25] (L2 := [(1, .ptr 0 0), (2, .bool false), (25, .bool ((decide ((nth x0.I_ 0) = 0))))]) (H2 := [.box [lsv (encI .u8) 1 x0.I_, lsv (encI .u8) 1 x0.F_, .int .i64 x0.W_, .int .i64 x0.C_]]) (by kernel_rfl) ?_
            refine RJ.end (by kernel_rfl) ?_
            obtain rfl := Option.some.inj h83
            exact PJ.cutN [1, 2, 25] (by kernel_rfl) (by kernel_rfl)
          · have h82 := condF hb80 h79
            refine RJ.seg 7 [1, 2, 25] (L2 := [(1, .ptr 0 0), (2, .bool false), (25, .bool false)]) (H2 := [.box [lsv (encI .u8) 1 x0.I_, lsv (encI .u8) 1 x0.F_, .int .i64 x0.W_, .int .i64 x0.C_]]) (by kernel_rfl) ?_
            refine RJ.end (by kernel_rfl) ?_
            obtain rfl := Option.some.inj h82
            exact PJ.cutN [1, 2, 25] (by kernel_rfl) (by kernel_rfl)
    · refine J.caseB 25 (b := s63) (by kernel_rfl) (fun hb84 => ?_) (fun hb84 => ?_)
      · have h85 := condT hb84 h67
        refine K.condT (by kernel_rfl) ?_
        refine K.seq (by kernel_rfl) ?_
        refine K.region (by kernel_rfl) ?_
        refine RJ.seg 1 [1, 2] (L2 := [(1, .ptr 0 0), (2, .bool false)]) (H2 := [.box [lsv (encI .u8) 1 x0.I_, lsv (encI .u8) 1 x0.F_, .int .i64 x0.W_, .int .i64 x0.C_]]) (by kernel_rfl) ?_
        refine RJ.end (by kernel_rfl) ?_
        refine PJ.next ?_
        refine K.ret (by kernel_rfl) ?_
        obtain rfl := Option.some.inj h85
        have h87 := joinX_inr h45
        refine PJ.cutXr (fun e => nomatch e) ?_
        obtain rfl := Option.some.inj h87
        exact K.ret0 (.inr rfl) hFn hFH hFD (by kernel_rfl) (by kernel_rfl) (by kernel_rfl)
      · have h86 := condF hb84 h67
        refine K.condF (by kernel_rfl) ?_
        refine K.skip (by kernel_rfl) ?_
        obtain rfl := Option.some.inj h86
        exact PJ.cutXl [1, 2] (by kernel_rfl) (by kernel_rfl)
  · subst hs
    have h46 := joinX_inl h45
    obtain ⟨s97, hy99, h101⟩ := bindS h46
    refine K.cutN (by kernel_rfl) (fun (s97 : Bool) => ([(2, .bool s97)], [])) s97 ?_ ?_
    · refine J.keep [1, 2] (L2 := [(1, .ptr 0 0), (2, .bool false)]) (by kernel_rfl) ?_
      refine K.draw (by kernel_rfl) (by kernel_rfl) (by kernel_rfl) (H2 := [.box [lsv (encI .u8) 1 x0.I_, lsv (encI .u8) 1 x0.F_, .int .i64 x0.W_, .int .i64 x0.C_], .res]) (by kernel_rfl) (n := 1) (by kernel_rfl) ?_
      refine RJ.segD 4 (tr2 := [([], []), ([0, 1], []), ([], []), ([0, 1], [])]) (L2 := [(29, lsv (encI .u8) 1 x0.F_), (28, .ptr 0 1), (27, .int .i64 x0.W_), (26, .ptr 0 2), (1, .ptr 0 0), (2, .bool false)]) (H2 := [.box [lsv (encI .u8) 1 x0.I_, lsv (encI .u8) 1 x0.F_, .int .i64 x0.W_, .int .i64 x0.C_], .res]) (by kernel_rfl) ?_
      obtain ⟨y102, hy103, h104⟩ := bindS hy99
      refine RJ.call0 (d := (some 30)) (f := 29) (args := [lsv (encI .u8) 1 x0.F_]) (v := .int .i64 y102) (tr2 := [([], []), ([0, 1], []), ([], []), ([0, 1], []), ([], [2, 3])]) (by kernel_rfl) (by kernel_rfl) (.cons (Le.refl _) .nil) (oper_shown_ok hy103) (by kernel_rfl) ?_
      refine RJ.segD 2 (tr2 := [([], []), ([0, 1], []), ([], []), ([0, 1], []), ([], [2, 3]), ([], []), ([], [])]) (L2 := [(32, .bool (decide (x0.W_ = y102))), (31, .bool (decide (x0.W_ = y102))), (30, .int .i64 y102), (29, lsv (encI .u8) 1 x0.F_), (28, .ptr 0 1), (27, .int .i64 x0.W_), (26, .ptr 0 2), (1, .ptr 0 0), (2, .bool false)]) (H2 := [.box [lsv (encI .u8) 1 x0.I_, lsv (encI .u8) 1 x0.F_, .int .i64 x0.W_, .int .i64 x0.C_], .res]) (by kernel_rfl) ?_
      refine RJ.caseB 32 (b := (decide (x0.W_ = y102))) (by kernel_rfl) (fun hb105 => ?_) (fun hb105 => ?_)
      · have h106 := condT hb105 h104
        refine RJ.segD 5 (tr2 := [([], []), ([0, 1], []), ([], []), ([0, 1], []), ([], [2, 3]), ([], []), ([], []), ([], []), ([0, 1], []), ([], []), ([], []), ([], [])]) (L2 := [(37, .bool (decide (x0.C_ ≥ 0))), (36, .bool (decide (x0.C_ ≥ 0))), (35, .bool (decide (x0.C_ ≥ 0))), (34, .int .i64 x0.C_), (33, .ptr 0 3), (32, .bool true), (32, .bool (decide (x0.W_ = y102))), (31, .bool (decide (x0.W_ = y102))), (30, .int .i64 y102), (29, lsv (encI .u8) 1 x0.F_), (28, .ptr 0 1), (27, .int .i64 x0.W_), (26, .ptr 0 2), (1, .ptr 0 0), (2, .bool false)]) (H2 := [.box [lsv (encI .u8) 1 x0.I_, lsv (encI .u8) 1 x0.F_, .int .i64 x0.W_, .int .i64 x0.C_], .res]) (by kernel_rfl) ?_
        refine RJ.caseB 37 (b := (decide (x0.C_ ≥ 0))) (by kernel_rfl) (fun hb108 => ?_) (fun hb108 => ?_)
        · have h109 := condT hb108 h106
          refine RJ.segD 5 (tr2 := [([], []), ([0, 1], []), ([], []), ([0, 1], []), ([], [2, 3]), ([], []), ([], []), ([], []), ([0, 1], []), ([], []), ([], []), ([], []), ([], []), ([0, 1], []), ([], []), ([], []), ([], [])]) (L2 := [(2, .bool (decide (x0.C_ ≤ 1000))), (41, .bool (decide (x0.C_ ≤ 1000))), (40, .bool (decide (x0.C_ ≤ 1000))), (39, .int .i64 x0.C_), (38, .ptr 0 3), (37, .bool true), (37, .bool (decide (x0.C_ ≥ 0))), (36, .bool (decide (x0.C_ ≥ 0))), (35, .bool (decide (x0.C_ ≥ 0))), (34, .int .i64 x0.C_), (33, .ptr 0 3), (32, .bool true), (32, .bool (decide (x0.W_ = y102))), (31, .bool (decide (x0.W_ = y102))), (30, .int .i64 y102), (29, lsv (encI .u8) 1 x0.F_), (28, .ptr 0 1), (27, .int .i64 x0.W_), (26, .ptr 0 2), (1, .ptr 0 0), (2, .bool false)]) (H2 := [.box [lsv (encI .u8) 1 x0.I_, lsv (encI .u8) 1 x0.F_, .int .i64 x0.W_, .int .i64 x0.C_], .res]) (by kernel_rfl) ?_
          refine RJ.end (by kernel_rfl) ?_
          obtain rfl := Option.some.inj h109
          refine PJ.wk (Wk.sel (L2 := [(2, .bool (decide (x0.C_ ≤ 1000)))]) (H2 := []) 0 (by rw [hFH]; rfl) hFD [] (by kernel_rfl) (by kernel_rfl) (by decide) (by kernel_rfl) (by kernel_rfl) (by kernel_rfl) (by kernel_rfl)) ?_
          exact PJ.cutN [2] (by kernel_rfl) (by kernel_rfl)
        · have h110 := condF hb108 h106
          refine RJ.segD 5 (tr2 := [([], []), ([0, 1], []), ([], []), ([0, 1], []), ([], [2, 3]), ([], []), ([], []), ([], []), ([0, 1], []), ([], []), ([], []), ([], []), ([], []), ([], []), ([], []), ([], []), ([], [])]) (L2 := [(2, .bool false), (41, .bool false), (40, .tup []), (39, .tup []), (38, .tup []), (37, .bool false), (37, .bool (decide (x0.C_ ≥ 0))), (36, .bool (decide (x0.C_ ≥ 0))), (35, .bool (decide (x0.C_ ≥ 0))), (34, .int .i64 x0.C_), (33, .ptr 0 3), (32, .bool true), (32, .bool (decide (x0.W_ = y102))), (31, .bool (decide (x0.W_ = y102))), (30, .int .i64 y102), (29, lsv (encI .u8) 1 x0.F_), (28, .ptr 0 1), (27, .int .i64 x0.W_), (26, .ptr 0 2), (1, .ptr 0 0), (2, .bool false)]) (H2 := [.box [lsv (encI .u8) 1 x0.I_, lsv (encI .u8) 1 x0.F_, .int .i64 x0.W_, .int .i64 x0.C_], .res]) (by kernel_rfl) ?_
          refine RJ.end (by kernel_rfl) ?_
          obtain rfl := Option.some.inj h110
          refine PJ.wk (Wk.sel (L2 := [(2, .bool false)]) (H2 := []) 0 (by rw [hFH]; rfl) hFD [] (by kernel_rfl) (by kernel_rfl) (by decide) (by kernel_rfl) (by kernel_rfl) (by kernel_rfl) (by kernel_rfl)) ?_
          exact PJ.cutN [2] (by kernel_rfl) (by kernel_rfl)
      · have h107 := condF hb105 h104
        refine RJ.segD 10 (tr2 := [([], []), ([0, 1], []), ([], []), ([0, 1], []), ([], [2, 3]), ([], []), ([], []), ([], []), ([], []), ([], []), ([], []), ([], []), ([], []), ([], []), ([], []), ([], []), ([], [])]) (L2 := [(2, .bool false), (41, .bool false), (40, .tup []), (39, .tup []), (38, .tup []), (37, .bool false), (36, .bool false), (35, .tup []), (34, .tup []), (33, .tup []), (32, .bool false), (32, .bool (decide (x0.W_ = y102))), (31, .bool (decide (x0.W_ = y102))), (30, .int .i64 y102), (29, lsv (encI .u8) 1 x0.F_), (28, .ptr 0 1), (27, .int .i64 x0.W_), (26, .ptr 0 2), (1, .ptr 0 0), (2, .bool false)]) (H2 := [.box [lsv (encI .u8) 1 x0.I_, lsv (encI .u8) 1 x0.F_, .int .i64 x0.W_, .int .i64 x0.C_], .res]) (by kernel_rfl) ?_
        refine RJ.end (by kernel_rfl) ?_
        obtain rfl := Option.some.inj h107
        refine PJ.wk (Wk.sel (L2 := [(2, .bool false)]) (H2 := []) 0 (by rw [hFH]; rfl) hFD [] (by kernel_rfl) (by kernel_rfl) (by decide) (by kernel_rfl) (by kernel_rfl) (by kernel_rfl) (by kernel_rfl)) ?_
        exact PJ.cutN [2] (by kernel_rfl) (by kernel_rfl)
    · refine K.ret (by kernel_rfl) ?_
      obtain rfl := Option.some.inj h101
      exact K.ret0 (.inr rfl) hFn hFH hFD (by kernel_rfl) (by kernel_rfl) (by kernel_rfl)

structure St58 where
  Oper_ : St23
  deriving Inhabited, DecidableEq
def encSt58 (x : St58) : List SV := [lsv (encI .u8) 1 x.Oper_.I_, lsv (encI .u8) 1 x.Oper_.F_, .int .i64 x.Oper_.W_, .int .i64 x.Oper_.C_]
theorem encSt58_len (x : St58) : (encSt58 x).length = 4 := rfl

def oper_asked__operands_s0 (x0 : St58) : Option (Unit) :=
  (some ())
theorem oper_asked__operands_s0_ok {x0 : St58} {r : Unit} (h : oper_asked__operands_s0 x0 = some r) : SC Try.prog 33 [.agg [lsv (encI .u8) 1 x0.Oper_.I_, lsv (encI .u8) 1 x0.Oper_.F_, .int .i64 x0.Oper_.W_, .int .i64 x0.Oper_.C_]] [] (.mp 0) [.map [(.int .u8 110, .fn (.func 35) [.agg [lsv (encI .u8) 1 x0.Oper_.I_, lsv (encI .u8) 1 x0.Oper_.F_, .int .i64 x0.Oper_.W_, .int .i64 x0.Oper_.C_]] []), (.int .u8 105, .fn (.func 36) [.agg [lsv (encI .u8) 1 x0.Oper_.I_, lsv (encI .u8) 1 x0.Oper_.F_, .int .i64 x0.Oper_.W_, .int .i64 x0.Oper_.C_]] []), (.int .u8 118, .fn (.func 37) [.agg [lsv (encI .u8) 1 x0.Oper_.I_, lsv (encI .u8) 1 x0.Oper_.F_, .int .i64 x0.Oper_.W_, .int .i64 x0.Oper_.C_]] []), (.int .u8 119, .fn (.func 38) [.agg [lsv (encI .u8) 1 x0.Oper_.I_, lsv (encI .u8) 1 x0.Oper_.F_, .int .i64 x0.Oper_.W_, .int .i64 x0.Oper_.C_]] []), (.int .u8 102, .fn (.func 39) [.agg [lsv (encI .u8) 1 x0.Oper_.I_, lsv (encI .u8) 1 x0.Oper_.F_, .int .i64 x0.Oper_.W_, .int .i64 x0.Oper_.C_]] []), (.int .u8 116, .fn (.func 40) [.agg [lsv (encI .u8) 1 x0.Oper_.I_, lsv (encI .u8) 1 x0.Oper_.F_, .int .i64 x0.Oper_.W_, .int .i64 x0.Oper_.C_]] []), (.int .u8 99, .fn (.func 41) [.agg [lsv (encI .u8) 1 x0.Oper_.I_, lsv (encI .u8) 1 x0.Oper_.F_, .int .i64 x0.Oper_.W_, .int .i64 x0.Oper_.C_]] []), (.int .u8 101, .fn (.func 41) [.agg [lsv (encI .u8) 1 x0.Oper_.I_, lsv (encI .u8) 1 x0.Oper_.F_, .int .i64 x0.Oper_.W_, .int .i64 x0.Oper_.C_]] [])]] := by
  refine K.fn (fn := Try.f33) (by kernel_rfl) (by kernel_rfl) (by kernel_rfl) (by kernel_rfl) (by kernel_rfl) (fun F hFn hFH hFD => ?_)
  unfold oper_asked__operands_s0 at h
  refine K.seq (by kernel_rfl) ?_
  refine K.region (by kernel_rfl) ?_
  refine RJ.seg 2 [1] (L2 := [(1, .ptr 0 0)]) (H2 := [.box [lsv (encI .u8) 1 x0.Oper_.I_, lsv (encI .u8) 1 x0.Oper_.F_, .int .i64 x0.Oper_.W_, .int .i64 x0.Oper_.C_]]) (by kernel_rfl) ?_
  refine RJ.end (by kernel_rfl) ?_
  refine PJ.next ?_
  refine K.seq (by kernel_rfl) ?_
  refine K.region (by kernel_rfl) ?_
  refine RJ.seg 27 [2] (L2 := [(2, .mp 1)]) (H2 := [.box [lsv (encI .u8) 1 x0.Oper_.I_, lsv (encI .u8) 1 x0.Oper_.F_, .int .i64 x0.Oper_.W_, .int .i64 x0.Oper_.C_], .map [(.int .u8 110, .fn (.func 35) [.agg [lsv (encI .u8) 1 x0.Oper_.I_, lsv (encI .u8) 1 x0.Oper_.F_, .int .i64 x0.Oper_.W_, .int .i64 x0.Oper_.C_]] []), (.int .u8 105, .fn (.func 36) [.agg [lsv (encI .u8) 1 x0.Oper_.I_, lsv (encI .u8) 1 x0.Oper_.F_, .int .i64 x0.Oper_.W_, .int .i64 x0.Oper_.C_]] []), (.int .u8 118, .fn (.func 37) [.agg [lsv (encI .u8) 1 x0.Oper_.I_, lsv (encI .u8) 1 x0.Oper_.F_, .int .i64 x0.Oper_.W_, .int .i64 x0.Oper_.C_]] []), (.int .u8 119, .fn (.func 38) [.agg [lsv (encI .u8) 1 x0.Oper_.I_, lsv (encI .u8) 1 x0.Oper_.F_, .int .i64 x0.Oper_.W_, .int .i64 x0.Oper_.C_]] []), (.int .u8 102, .fn (.func 39) [.agg [lsv (encI .u8) 1 x0.Oper_.I_, lsv (encI .u8) 1 x0.Oper_.F_, .int .i64 x0.Oper_.W_, .int .i64 x0.Oper_.C_]] []), (.int .u8 116, .fn (.func 40) [.agg [lsv (encI .u8) 1 x0.Oper_.I_, lsv (encI .u8) 1 x0.Oper_.F_, .int .i64 x0.Oper_.W_, .int .i64 x0.Oper_.C_]] []), (.int .u8 99, .fn (.func 41) [.agg [lsv (encI .u8) 1 x0.Oper_.I_, lsv (encI .u8) 1 x0.Oper_.F_, .int .i64 x0.Oper_.W_, .int .i64 x0.Oper_.C_]] []), (.int .u8 101, .fn (.func 41) [.agg [lsv (encI .u8) 1 x0.Oper_.I_, lsv (encI .u8) 1 x0.Oper_.F_, .int .i64 x0.Oper_.W_, .int .i64 x0.Oper_.C_]] [])]]) (by kernel_rfl) ?_
  refine RJ.end (by kernel_rfl) ?_
  refine PJ.next ?_
  refine K.ret (by kernel_rfl) ?_
  obtain rfl := Option.some.inj h
  exact K.retV (H0 := []) [1] (.inr rfl) hFn hFH hFD (by kernel_rfl) (v1 := .mp 1) (by kernel_rfl) (by kernel_rfl) (by kernel_rfl) (by decide) (by kernel_rfl) (by kernel_rfl) (by kernel_rfl) (by kernel_rfl) (by kernel_rfl)

def oper_asked__number (x0 : St58) : Option ((List Int) × Bool) :=
  (bif (decide (x0.Oper_.W_ > 0)) then (some (([] : List Int), false)) else (Option.bind (slices_Clone x0.Oper_.I_) fun y4 => (some (y4, true))))
theorem oper_asked__number_ok {x0 : St58} {r : (List Int) × Bool} (h : oper_asked__number x0 = some r) : SC Try.prog 35 [.agg [lsv (encI .u8) 1 x0.Oper_.I_, lsv (encI .u8) 1 x0.Oper_.F_, .int .i64 x0.Oper_.W_, .int .i64 x0.Oper_.C_]] [] (.tup [lsv (encI .u8) 1 r.1, .bool r.2]) [] := by
  refine K.fn (fn := Try.f35) (by kernel_rfl) (by kernel_rfl) (by kernel_rfl) (by kernel_rfl) (by kernel_rfl) (fun F hFn hFH hFD => ?_)
  unfold oper_asked__number at h
  refine K.seq (by kernel_rfl) ?_
  refine K.region (by kernel_rfl) ?_
  refine RJ.seg 3 [1, 2, 3] (L2 := [(1, .ptr 0 0), (2, .nl), (3, .bool false)]) (H2 := [.box [lsv (encI .u8) 1 x0.Oper_.I_, lsv (encI .u8) 1 x0.Oper_.F_, .int .i64 x0.Oper_.W_, .int .i64 x0.Oper_.C_]]) (by kernel_rfl) ?_
  refine RJ.end (by kernel_rfl) ?_
  refine PJ.next ?_
  refine K.seq (by kernel_rfl) ?_
  refine K.seq (by kernel_rfl) ?_
  refine K.region (by kernel_rfl) ?_
  refine RJ.seg 4 [1, 2, 3, 7] (L2 := [(1, .ptr 0 0), (2, .nl), (3, .bool false), (7, .bool (decide (x0.Oper_.W_ > 0)))]) (H2 := [.box [lsv (encI .u8) 1 x0.Oper_.I_, lsv (encI .u8) 1 x0.Oper_.F_, .int .i64 x0.Oper_.W_, .int .i64 x0.Oper_.C_]]) (by kernel_rfl) ?_
  refine RJ.end (by kernel_rfl) ?_
  refine PJ.next ?_
  refine J.caseB 7 (b := (decide (x0.Oper_.W_ > 0))) (by kernel_rfl) (fun hb1 => ?_) (fun hb1 => ?_)
  · have h2 := condT hb1 h
    refine K.condT (by kernel_rfl) ?_
    refine K.seq (by kernel_rfl) ?_
    refine K.region (by kernel_rfl) ?_
    refine RJ.seg 2 [1, 2, 3] (L2 := [(1, .ptr 0 0), (2, .nl), (3, .bool false)]) (H2 := [.box [lsv (encI .u8) 1 x0.Oper_.I_, lsv (encI .u8) 1 x0.Oper_.F_, .int .i64 x0.Oper_.W_, .int .i64 x0.Oper_.C_]]) (by kernel_rfl) ?_
    refine RJ.end (by kernel_rfl) ?_
    refine PJ.next ?_
    refine K.ret (by kernel_rfl) ?_
    refine PJ.passRet ?_
    obtain rfl := Option.some.inj h2
    refine PJ.res (v1 := .tup [.nl, .bool false]) (Le.tup (.cons (Le.nl _) (.cons (Le.refl _) .nil))) ?_
    exact K.ret0 (.inr rfl) hFn hFH hFD (by kernel_rfl) (by kernel_rfl) (by kernel_rfl)
  · have h3 := condF hb1 h
    refine K.condF (by kernel_rfl) ?_
    refine K.skip (by kernel_rfl) ?_
    refine PJ.next ?_
    refine K.seq (by kernel_rfl) ?_
    refine K.region (by kernel_rfl) ?_
    refine RJ.seg 3 [2, 3, 10] (L2 := [(2, .nl), (3, .bool false), (10, lsv (encI .u8) 1 x0.Oper_.I_)]) (H2 := [.box [lsv (encI .u8) 1 x0.Oper_.I_, lsv (encI .u8) 1 x0.Oper_.F_, .int .i64 x0.Oper_.W_, .int .i64 x0.Oper_.C_]]) (by kernel_rfl) ?_
    obtain ⟨y4, hy5, h6⟩ := bindS h3
    refine RJ.call0 (d := (some 11)) (f := 28) (args := [lsv (encI .u8) 1 x0.Oper_.I_]) (v := lsv (encI .u8) 1 y4) (tr2 := []) (by kernel_rfl) (by kernel_rfl) (.cons (Le.refl _) .nil) (slices_Clone_ok hy5) (by kernel_rfl) ?_
    refine RJ.seg 2 [2, 3] (L2 := [(2, lsv (encI .u8) 1 y4), (3, .bool true)]) (H2 := [.box [lsv (encI .u8) 1 x0.Oper_.I_, lsv (encI .u8) 1 x0.Oper_.F_, .int .i64 x0.Oper_.W_, .int .i64 x0.Oper_.C_]]) (by kernel_rfl) ?_
    refine RJ.end (by kernel_rfl) ?_
    refine PJ.next ?_
    refine K.ret (by kernel_rfl) ?_
    obtain rfl := Option.some.inj h6
    exact K.ret0 (.inr rfl) hFn hFH hFD (by kernel_rfl) (by kernel_rfl) (by kernel_rfl)

def oper_asked__whole (x0 : St58) : Option ((List Int) × Bool) :=
  (Option.bind (slices_Clone x0.Oper_.I_) fun y1 => (some (y1, true)))
theorem oper_asked__whole_ok {x0 : St58} {r : (List Int) × Bool} (h : oper_asked__whole x0 = some r) : SC Try.prog 36 [.agg [lsv (encI .u8) 1 x0.Oper_.I_, lsv (encI .u8) 1 x0.Oper_.F_, .int .i64 x0.Oper_.W_, .int .i64 x0.Oper_.C_]] [] (.tup [lsv (encI .u8) 1 r.1, .bool r.2]) [] := by
  refine K.fn (fn := Try.f36) (by kernel_rfl) (by kernel_rfl) (by kernel_rfl) (by kernel_rfl) (by kernel_rfl) (fun F hFn hFH hFD => ?_)
  unfold oper_asked__whole at h
  refine K.seq (by kernel_rfl) ?_
  refine K.region (by kernel_rfl) ?_
  refine RJ.seg 3 [1, 2, 3] (L2 := [(1, .ptr 0 0), (2, .nl), (3, .bool false)]) (H2 := [.box [lsv (encI .u8) 1 x0.Oper_.I_, lsv (encI .u8) 1 x0.Oper_.F_, .int .i64 x0.Oper_.W_, .int .i64 x0.Oper_.C_]]) (by kernel_rfl) ?_
  refine RJ.end (by kernel_rfl) ?_
  refine PJ.next ?_
  refine K.seq (by kernel_rfl) ?_
  refine K.region (by kernel_rfl) ?_
  refine RJ.seg 3 [2, 3, 6] (L2 := [(2, .nl), (3, .bool false), (6, lsv (encI .u8) 1 x0.Oper_.I_)]) (H2 := [.box [lsv (encI .u8) 1 x0.Oper_.I_, lsv (encI .u8) 1 x0.Oper_.F_, .int .i64 x0.Oper_.W_, .int .i64 x0.Oper_.C_]]) (by kernel_rfl) ?_
  obtain ⟨y1, hy2, h3⟩ := bindS h
  refine RJ.call0 (d := (some 7)) (f := 28) (args := [lsv (encI .u8) 1 x0.Oper_.I_]) (v := lsv (encI .u8) 1 y1) (tr2 := []) (by kernel_rfl) (by kernel_rfl) (.cons (Le.refl _) .nil) (slices_Clone_ok hy2) (by kernel_rfl) ?_
  refine RJ.seg 2 [2, 3] (L2 := [(2, lsv (encI .u8) 1 y1), (3, .bool true)]) (H2 := [.box [lsv (encI .u8) 1 x0.Oper_.I_, lsv (encI .u8) 1 x0.Oper_.F_, .int .i64 x0.Oper_.W_, .int .i64 x0.Oper_.C_]]) (by kernel_rfl) ?_
  refine RJ.end (by kernel_rfl) ?_
  refine PJ.next ?_
  refine K.ret (by kernel_rfl) ?_
  obtain rfl := Option.some.inj h3
  exact K.ret0 (.inr rfl) hFn hFH hFD (by kernel_rfl) (by kernel_rfl) (by kernel_rfl)

def slices_Reverse_s0 (x0 : List Int) : Option ((List Int)) :=
  (loopN (fun (s1 : Int × Int × (List Int)) => (bif (decide (s1.1 < s1.2.1)) then (bif inR s1.2.1 s1.2.2.length then (bif inR s1.2.1 s1.2.2.length then (bif inR s1.1 s1.2.2.length then (bif inR s1.1 s1.2.2.length then (bif inR s1.1 s1.2.2.length then (bif inR s1.1 s1.2.2.length then (bif inR s1.2.1 (setAt s1.2.2 s1.1 (nth s1.2.2 s1.2.1)).length then (bif inR s1.2.1 (setAt s1.2.2 s1.1 (nth s1.2.2 s1.2.1)).length then (some (.inl ((IntKind.wrap .i64 (s1.1 + 1)), (IntKind.wrap .i64 (s1.2.1 - 1)), (setAt (setAt s1.2.2 s1.1 (nth s1.2.2 s1.2.1)) s1.2.1 (nth s1.2.2 s1.1))))) else none) else none) else none) else none) else none) else none) else none) else none) else (some (.inr s1.2.2)))) big (0, (IntKind.wrap .i64 ((x0.length : Int) - 1)), x0))
theorem slices_Reverse_s0_ok {x0 : List Int} {r : (List Int)} (h : slices_Reverse_s0 x0 = some r) : SC Try.prog 43 [.vc 0] [vecL (encI .u8) 1 5 x0] (.tup []) [vecL (encI .u8) 1 5 r] := by
  refine K.fn (fn := Try.f43) (by kernel_rfl) (by kernel_rfl) (by kernel_rfl) (by kernel_rfl) (by kernel_rfl) (fun F hFn hFH hFD => ?_)
  unfold slices_Reverse_s0 at h
  refine K.seq (by kernel_rfl) ?_
  refine K.region (by kernel_rfl) ?_
  refine RJ.seg 5 [0, 2, 3] (L2 := [(0, .vc 0), (2, .int .i64 0), (3, .int .i64 ((IntKind.wrap .i64 ((x0.length : Int) - 1))))]) (H2 := [vecL (encI .u8) 1 5 x0]) (by kernel_rfl) ?_
  refine RJ.end (by kernel_rfl) ?_
  refine PJ.next ?_
  refine K.block 0 (by kernel_rfl) ?_
  refine K.loop (by kernel_rfl) (fun (s1 : Int × Int × (List Int)) => ([(0, .vc 0), (2, .int .i64 s1.1), (3, .int .i64 s1.2.1)], [vecL (encI .u8) 1 5 s1.2.2])) h [0, 2, 3] (by kernel_rfl) (by kernel_rfl) (fun s1 x29 hs28 => ?_)
  refine K.seq (by kernel_rfl) ?_
  refine K.seq (by kernel_rfl) ?_
  refine K.region (by kernel_rfl) ?_
  refine RJ.seg 3 [0, 2, 3, 9] (L2 := [(0, .vc 0), (2, .int .i64 s1.1), (3, .int .i64 s1.2.1), (9, .bool (decide (s1.1 < s1.2.1)))]) (H2 := [vecL (encI .u8) 1 5 s1.2.2]) (by kernel_rfl) ?_
  refine RJ.end (by kernel_rfl) ?_
  refine PJ.next ?_
  refine J.caseB 9 (b := (decide (s1.1 < s1.2.1))) (by kernel_rfl) (fun hb30 => ?_) (fun hb30 => ?_)
  · have h31 := condT hb30 hs28
    refine K.condT (by kernel_rfl) ?_
    refine K.skip (by kernel_rfl) ?_
    refine PJ.next ?_
    refine K.seq (by kernel_rfl) ?_
    refine K.block 1 (by kernel_rfl) ?_
    refine J.keep [0, 2, 3] (L2 := [(0, .vc 0), (2, .int .i64 s1.1), (3, .int .i64 s1.2.1)]) (by kernel_rfl) ?_
    refine K.draw (by kernel_rfl) (by kernel_rfl) (by kernel_rfl) (H2 := [vecL (encI .u8) 1 5 s1.2.2]) (by kernel_rfl) (n := 1) (by kernel_rfl) ?_
    refine RJ.segD 6 (tr2 := [([], []), ([], []), ([], []), ([], []), ([], []), ([], [])]) (L2 := [(19, .int .i64 s1.2.1), (18, .vc 0), (17, .int .i64 s1.2.1), (16, .vc 0), (15, .int .i64 s1.1), (14, .vc 0), (0, .vc 0), (2, .int .i64 s1.1), (3, .int .i64 s1.2.1)]) (H2 := [vecL (encI .u8) 1 5 s1.2.2]) (by kernel_rfl) ?_
    obtain ⟨hm, h33⟩ := asrt h31
    refine RJ.rel (d := (some 20)) (ef := ⟨.ptr 0 ((s1.2.1 : Int).toNat * 1), [0], []⟩) (ef' := ⟨.ptr 0 ((s1.2.1 : Int).toNat * 1), [0], []⟩) (c := inR s1.2.1 s1.2.2.length) (tr2 := [([], []), ([], []), ([], []), ([], []), ([], []), ([], []), ([1], [])]) (H2 := [vecL (encI .u8) 1 5 s1.2.2]) (by kernel_rfl) hm (fun hc => rfl) (by kernel_rfl) ?_
    obtain ⟨hm, h34⟩ := asrt h33
    refine RJ.rel (d := (some 21)) (ef := ⟨(((s1.2.2).flatMap (encI .u8)).drop ((s1.2.1 : Int).toNat * 1)).headD .undef, [0], []⟩) (ef' := ⟨.int .u8 (nth s1.2.2 s1.2.1), [0], []⟩) (c := Nat.blt ((s1.2.1 : Int).toNat * 1) (s1.2.2.flatMap (encI .u8)).length) (tr2 := [([], []), ([], []), ([], []), ([], []), ([], []), ([], []), ([1], []), ([0, 1], [])]) (H2 := [vecL (encI .u8) 1 5 s1.2.2]) (by kernel_rfl) (loadv_ok (encI_len .u8) rfl hm) (fun hc => N.load1 (encI_len .u8) (fun _ => rfl) hm) (by kernel_rfl) ?_
    refine RJ.segD 2 (tr2 := [([], []), ([], []), ([], []), ([], []), ([], []), ([], []), ([1], []), ([0, 1], []), ([], []), ([], [])]) (L2 := [(23, .int .i64 s1.1), (22, .vc 0), (21, .int .u8 (nth s1.2.2 s1.2.1)), (20, .ptr 0 ((s1.2.1 : Int).toNat * 1)), (19, .int .i64 s1.2.1), (18, .vc 0), (17, .int .i64 s1.2.1), (16, .vc 0), (15, .int .i64 s1.1), (14, .vc 0), (0, .vc 0), (2, .int .i64 s1.1), (3, .int .i64 s1.2.1)]) (H2 := [vecL (encI .u8) 1 5 s1.2.2]) (by kernel_rfl) ?_
    obtain ⟨hm, h35⟩ := asrt h34
    refine RJ.rel (d := (some 24)) (ef := ⟨.ptr 0 ((s1.1 : Int).toNat * 1), [0], []⟩) (ef' := ⟨.ptr 0 ((s1.1 : Int).toNat * 1), [0], []⟩) (c := inR s1.1 s1.2.2.length) (tr2 := [([], []), ([], []), ([], []), ([], []), ([], []), ([], []), ([1], []), ([0, 1], []), ([], []), ([], []), ([1], [])]) (H2 := [vecL (encI .u8) 1 5 s1.2.2]) (by kernel_rfl) hm (fun hc => rfl) (by kernel_rfl) ?_
    obtain ⟨hm, h36⟩ := asrt h35
    refine RJ.rel (d := (some 25)) (ef := ⟨(((s1.2.2).flatMap (encI .u8)).drop ((s1.1 : Int).toNat * 1)).headD .undef, [0], []⟩) (ef' := ⟨.int .u8 (nth s1.2.2 s1.1), [0], []⟩) (c := Nat.blt ((s1.1 : Int).toNat * 1) (s1.2.2.flatMap (encI .u8)).length) (tr2 := [([], []), ([], []), ([], []), ([], []), ([], []), ([], []), ([1], []), ([0, 1], []), ([], []), ([], []), ([1], []), ([0, 1], [])]) (H2 := [vecL (encI .u8) 1 5 s1.2.2]) (by kernel_rfl) (loadv_ok (encI_len .u8) rfl hm) (fun hc => N.load1 (encI_len .u8) (fun _ => rfl) hm) (by kernel_rfl) ?_
    obtain ⟨hm, h37⟩ := asrt h36
    refine RJ.rel (d := (some 26)) (ef := ⟨.ptr 0 ((s1.1 : Int).toNat * 1), [0], []⟩) (ef' := ⟨.ptr 0 ((s1.1 : Int).toNat * 1), [0], []⟩) (c := inR s1.1 s1.2.2.length) (tr2 := [([], []), ([], []), ([], []), ([], []), ([], []), ([], []), ([1], []), ([0, 1], []), ([], []), ([], []), ([1], []), ([0, 1], []), ([1], [])]) (H2 := [vecL (encI .u8) 1 5 s1.2.2]) (by kernel_rfl) hm (fun hc => rfl) (by kernel_rfl) ?_
    obtain ⟨hm, h38⟩ := asrt h37
    refine RJ.rel (d := none) (ef := ⟨.undef, [0], [(0, .vec (s1.2.2).length 1 5 (splice ((s1.2.2).flatMap (encI .u8)) ((s1.1 : Int).toNat * 1) ((encI .u8) (nth s1.2.2 s1.2.1))))]⟩) (ef' := ⟨.undef, [0], [(0, vecL (encI .u8) 1 5 (setAt s1.2.2 s1.1 (nth s1.2.2 s1.2.1)))]⟩) (c := Nat.ble (((s1.1 : Int).toNat * 1) + ((encI .u8) (nth s1.2.2 s1.2.1)).length) (s1.2.2.flatMap (encI .u8)).length) (tr2 := [([], []), ([], []), ([], []), ([], []), ([], []), ([], []), ([1], []), ([0, 1], []), ([], []), ([], []), ([1], []), ([0, 1], []), ([1], []), ([0, 1], [0])]) (H2 := [vecL (encI .u8) 1 5 (setAt s1.2.2 s1.1 (nth s1.2.2 s1.2.1))]) (by kernel_rfl) (storev_ok (encI_len .u8) hm) (fun hc => N.store (encI_len .u8) hm) (by kernel_rfl) ?_
    obtain ⟨hm, h39⟩ := asrt h38
    refine RJ.rel (d := (some 27)) (ef := ⟨.ptr 0 ((s1.2.1 : Int).toNat * 1), [0], []⟩) (ef' := ⟨.ptr 0 ((s1.2.1 : Int).toNat * 1), [0], []⟩) (c := inR s1.2.1 (setAt s1.2.2 s1.1 (nth s1.2.2 s1.2.1)).length) (tr2 := [([], []), ([], []), ([], []), ([], []), ([], []), ([], []), ([1], []), ([0, 1], []), ([], []), ([], []), ([1], []), ([0, 1], []), ([1], []), ([0, 1], [0]), ([1], [])]) (H2 := [vecL (encI .u8) 1 5 (setAt s1.2.2 s1.1 (nth s1.2.2 s1.2.1))]) (by kernel_rfl) hm (fun hc => rfl) (by kernel_rfl) ?_
    obtain ⟨hm, h40⟩ := asrt h39
    refine RJ.rel (d := none) (ef := ⟨.undef, [0], [(0, .vec ((setAt s1.2.2 s1.1 (nth s1.2.2 s1.2.1))).length 1 5 (splice (((setAt s1.2.2 s1.1 (nth s1.2.2 s1.2.1))).flatMap (encI .u8)) ((s1.2.1 : Int).toNat * 1) ((encI .u8) (nth s1.2.2 s1.1))))]⟩) (ef' := ⟨.undef, [0], [(0, vecL (encI .u8) 1 5 (setAt (setAt s1.2.2 s1.1 (nth s1.2.2 s1.2.1)) s1.2.1 (nth s1.2.2 s1.1)))]⟩) (c := Nat.ble (((s1.2.1 : Int).toNat * 1) + ((encI .u8) (nth s1.2.2 s1.1)).length) ((setAt s1.2.2 s1.1 (nth s1.2.2 s1.2.1)).flatMap (encI .u8)).length) (tr2 := [([], []), ([], []), ([], []), ([], []), ([], []), ([], []), ([1], []), ([0, 1], []), ([], []), ([], []), ([1], []), ([0, 1], []), ([1], []), ([0, 1], [0]), ([1], []), ([0, 1], [0])]) (H2 := [vecL (encI .u8) 1 5 ((setAt (setAt s1.2.2 s1.1 (nth s1.2.2 s1.2.1)) s1.2.1 (nth s1.2.2 s1.1)))]) (by kernel_rfl) (storev_ok (encI_len .u8) hm) (fun hc => N.store (encI_len .u8) hm) (by kernel_rfl) ?_
    refine RJ.end (by kernel_rfl) ?_
    refine PJ.blockNormal ?_
    refine PJ.next ?_
    refine K.region (by kernel_rfl) ?_
    refine RJ.seg 6 [0, 2, 3] (L2 := [(0, .vc 0), (2, .int .i64 (IntKind.wrap .i64 (s1.1 + 1))), (3, .int .i64 (IntKind.wrap .i64 (s1.2.1 - 1)))]) (H2 := [vecL (encI .u8) 1 5 ((setAt (setAt s1.2.2 s1.1 (nth s1.2.2 s1.2.1)) s1.2.1 (nth s1.2.2 s1.1)))]) (by kernel_rfl) ?_
    refine RJ.end (by kernel_rfl) ?_
    obtain rfl := Option.some.inj h40
    exact PJ.loopNext [0, 2, 3] (by kernel_rfl) (by kernel_rfl)
  · have h32 := condF hb30 hs28
    refine K.condF (by kernel_rfl) ?_
    refine K.exit 0 (by kernel_rfl) ?_
    refine PJ.passExit ?_
    obtain rfl := Option.some.inj h32
    refine PJ.loopOut (fun e => nomatch e) (fun he42 => ?_)
    have h41 := congrArg some he42
    refine PJ.blockOut ?_
    obtain rfl := Option.some.inj h41
    exact K.retV (H0 := [vecL (encI .u8) 1 5 x0]) [0] (.inl rfl) hFn hFH hFD (by kernel_rfl) (v1 := .tup []) (by kernel_rfl) (by kernel_rfl) (by kernel_rfl) (by decide) (by kernel_rfl) (by kernel_rfl) (by kernel_rfl) (by kernel_rfl) (by kernel_rfl)

def oper_spell (x0 : Int) : Option (List Int) :=
  (Option.bind (loopN (fun (s27 : Int × (List Int)) => (bif (decide (s27.1 > 0)) then (bif room (s27.2.length + (([(IntKind.wrap .u8 (Int.tmod s27.1 10))] : List Int)).length) then (some (.inl ((IntKind.wrap .i64 (Int.tdiv s27.1 10)), (s27.2 ++ (([(IntKind.wrap .u8 (Int.tmod s27.1 10))] : List Int)))))) else none) else (some (.inr s27.2)))) big (x0, ([] : List Int))) fun (s22 : (List Int)) => (Option.bind (slices_Reverse_s0 s22) fun y48 => (some y48)))
theorem oper_spell_ok {x0 : Int} {r : List Int} (h : oper_spell x0 = some r) : SC Try.prog 42 [.int .i64 x0] [] (lsv (encI .u8) 1 r) [] := by
  refine K.fn (fn := Try.f42) (by kernel_rfl) (by kernel_rfl) (by kernel_rfl) (by kernel_rfl) (by kernel_rfl) (fun F hFn hFH hFD => ?_)
  unfold oper_spell at h
  refine K.seq (by kernel_rfl) ?_
  refine K.region (by kernel_rfl) ?_
  refine RJ.seg 1 [0, 2] (L2 := [(0, .int .i64 x0), (2, .nl)]) (H2 := []) (by kernel_rfl) ?_
  refine RJ.end (by kernel_rfl) ?_
  refine PJ.next ?_
  refine K.seq (by kernel_rfl) ?_
  refine K.region (by kernel_rfl) ?_
  refine RJ.seg 1 [0, 2, 3] (L2 := [(0, .int .i64 x0), (2, .nl), (3, .nl)]) (H2 := []) (by kernel_rfl) ?_
  refine RJ.end (by kernel_rfl) ?_
  refine PJ.next ?_
  obtain ⟨s22, hy24, h26⟩ := bindS h
  refine K.cutN (by kernel_rfl) (fun (s22 : (List Int)) => ([(2, .nl), (3, .vc 0)], [vecL (encI .u8) 1 5 s22])) s22 ?_ ?_
  · refine K.block 0 (by kernel_rfl) ?_
    refine J.wk (Wk.viv 3 1 5 (by kernel_rfl)) ?_
    refine K.loop (by kernel_rfl) (fun (s27 : Int × (List Int)) => ([(0, .int .i64 s27.1), (2, .nl), (3, .vc 0)], [vecL (encI .u8) 1 5 s27.2])) hy24 [0, 2, 3] (by kernel_rfl) (by kernel_rfl) (fun s27 x41 hs40 => ?_)
    refine K.seq (by kernel_rfl) ?_
    refine K.seq (by kernel_rfl) ?_
    refine K.region (by kernel_rfl) ?_
    refine RJ.seg 2 [0, 2, 3, 5] (L2 := [(0, .int .i64 s27.1), (2, .nl), (3, .vc 0), (5, .bool (decide (s27.1 > 0)))]) (H2 := [vecL (encI .u8) 1 5 s27.2]) (by kernel_rfl) ?_
    refine RJ.end (by kernel_rfl) ?_
    refine PJ.next ?_
    refine J.caseB 5 (b := (decide (s27.1 > 0))) (by kernel_rfl) (fun hb42 => ?_) (fun hb42 => ?_)
    · have h43 := condT hb42 hs40
      refine K.condT (by kernel_rfl) ?_
      refine K.skip (by kernel_rfl) ?_
      refine PJ.next ?_
      refine K.seq (by kernel_rfl) ?_
      refine K.block 1 (by kernel_rfl) ?_
      refine K.region (by kernel_rfl) ?_
      refine RJ.seg 5 [0, 2, 3, 8, 12] (L2 := [(0, .int .i64 s27.1), (2, .nl), (3, .vc 0), (8, .vc 0), (12, .vc 1)]) (H2 := [vecL (encI .u8) 1 5 s27.2, vecL (encI .u8) 1 5 (([(IntKind.wrap .u8 (Int.tmod s27.1 10))] : List Int))]) (by kernel_rfl) ?_
      obtain ⟨hm, h45⟩ := asrt h43
      refine RJ.rel (d := (some 13)) (ef := ⟨.vc 2, [0, 1], [(0, .gone), (2, .vec (s27.2.length + (([(IntKind.wrap .u8 (Int.tmod s27.1 10))] : List Int)).length) 1 5 (s27.2.flatMap (encI .u8) ++ (([(IntKind.wrap .u8 (Int.tmod s27.1 10))] : List Int)).flatMap (encI .u8)))]⟩) (ef' := ⟨.vc 2, [0, 1], [(0, .gone), (2, vecL (encI .u8) 1 5 (s27.2 ++ (([(IntKind.wrap .u8 (Int.tmod s27.1 10))] : List Int))))]⟩) (c := room (s27.2.length + (([(IntKind.wrap .u8 (Int.tmod s27.1 10))] : List Int)).length)) (tr2 := []) (H2 := [.gone, vecL (encI .u8) 1 5 (([(IntKind.wrap .u8 (Int.tmod s27.1 10))] : List Int)), vecL (encI .u8) 1 5 ((s27.2 ++ (([(IntKind.wrap .u8 (Int.tmod s27.1 10))] : List Int))))]) (by kernel_rfl) hm (fun hc => N.app) (by kernel_rfl) ?_
      refine RJ.seg 1 [0, 2, 3] (L2 := [(0, .int .i64 s27.1), (2, .nl), (3, .vc 2)]) (H2 := [.gone, vecL (encI .u8) 1 5 (([(IntKind.wrap .u8 (Int.tmod s27.1 10))] : List Int)), vecL (encI .u8) 1 5 ((s27.2 ++ (([(IntKind.wrap .u8 (Int.tmod s27.1 10))] : List Int))))]) (by kernel_rfl) ?_
      refine RJ.end (by kernel_rfl) ?_
      refine PJ.blockNormal ?_
      refine PJ.next ?_
      refine K.region (by kernel_rfl) ?_
      refine RJ.seg 3 [0, 2, 3] (L2 := [(0, .int .i64 (IntKind.wrap .i64 (Int.tdiv s27.1 10))), (2, .nl), (3, .vc 2)]) (H2 := [.gone, vecL (encI .u8) 1 5 (([(IntKind.wrap .u8 (Int.tmod s27.1 10))] : List Int)), vecL (encI .u8) 1 5 ((s27.2 ++ (([(IntKind.wrap .u8 (Int.tmod s27.1 10))] : List Int))))]) (by kernel_rfl) ?_
      refine RJ.end (by kernel_rfl) ?_
      obtain rfl := Option.some.inj h45
      refine PJ.wk (Wk.sel (L2 := [(0, .int .i64 (IntKind.wrap .i64 (Int.tdiv s27.1 10))), (2, .nl), (3, .vc 0)]) (H2 := [vecL (encI .u8) 1 5 ((s27.2 ++ (([(IntKind.wrap .u8 (Int.tmod s27.1 10))] : List Int))))]) 0 (by rw [hFH]; rfl) hFD [2] (by kernel_rfl) (by kernel_rfl) (by decide) (by kernel_rfl) (by kernel_rfl) (by kernel_rfl) (by kernel_rfl)) ?_
      exact PJ.loopNext [0, 2, 3] (by kernel_rfl) (by kernel_rfl)
    · have h44 := condF hb42 hs40
      refine K.condF (by kernel_rfl) ?_
      refine K.exit 0 (by kernel_rfl) ?_
      refine PJ.passExit ?_
      obtain rfl := Option.some.inj h44
      refine PJ.loopOut (fun e => nomatch e) (fun he47 => ?_)
      have h46 := congrArg some he47
      refine PJ.blockOut ?_
      obtain rfl := Option.some.inj h46
      exact PJ.cutN [2, 3] (by kernel_rfl) (by kernel_rfl)
  · refine K.seq (by kernel_rfl) ?_
    refine K.region (by kernel_rfl) ?_
    refine RJ.seg 1 [2, 3, 14] (L2 := [(2, .nl), (3, .vc 0), (14, .vc 0)]) (H2 := [vecL (encI .u8) 1 5 s22]) (by kernel_rfl) ?_
    obtain ⟨y48, hy49, h50⟩ := bindS h26
    refine RJ.callG (d := (some 15)) (f := 43) (args := [.vc 0]) (args0 := [.vc 0]) (v0 := .tup []) (v := .tup []) (tr2 := []) (H0 := [vecL (encI .u8) 1 5 s22]) (H0' := [vecL (encI .u8) 1 5 y48]) (H2 := [vecL (encI .u8) 1 5 y48]) [0] (by kernel_rfl) (by kernel_rfl) (by kernel_rfl) (by kernel_rfl) (by decide) (by kernel_rfl) (by kernel_rfl) (by kernel_rfl) (.cons (Le.refl _) .nil) (slices_Reverse_s0_ok hy49) (by kernel_rfl) (by kernel_rfl) (by kernel_rfl) ?_
    refine RJ.end (by kernel_rfl) ?_
    refine PJ.next ?_
    refine K.seq (by kernel_rfl) ?_
    refine K.region (by kernel_rfl) ?_
    refine RJ.seg 2 [2] (L2 := [(2, .vc 0)]) (H2 := [vecL (encI .u8) 1 5 y48]) (by kernel_rfl) ?_
    refine RJ.end (by kernel_rfl) ?_
    refine PJ.next ?_
    refine K.ret (by kernel_rfl) ?_
    obtain rfl := Option.some.inj h50
    refine PJ.wk (Wk.freeze 0 (n := y48.length) (k := 1) (e := 5) (cs := y48.flatMap (encI .u8)) (by kernel_rfl)) ?_
    exact K.ret0 (.inr rfl) hFn hFH hFD (by kernel_rfl) (by kernel_rfl) (by kernel_rfl)

def oper_asked__long (x0 : St58) : Option ((List Int) × Bool) :=
  (Option.bind (oper_spell (x0.Oper_.F_.length : Int)) fun y1 => (some (y1, true)))
theorem oper_asked__long_ok {x0 : St58} {r : (List Int) × Bool} (h : oper_asked__long x0 = some r) : SC Try.prog 37 [.agg [lsv (encI .u8) 1 x0.Oper_.I_, lsv (encI .u8) 1 x0.Oper_.F_, .int .i64 x0.Oper_.W_, .int .i64 x0.Oper_.C_]] [] (.tup [lsv (encI .u8) 1 r.1, .bool r.2]) [] := by
  refine K.fn (fn := Try.f37) (by kernel_rfl) (by kernel_rfl) (by kernel_rfl) (by kernel_rfl) (by kernel_rfl) (fun F hFn hFH hFD => ?_)
  unfold oper_asked__long at h
  refine K.seq (by kernel_rfl) ?_
  refine K.region (by kernel_rfl) ?_
  refine RJ.seg 3 [1, 2, 3] (L2 := [(1, .ptr 0 0), (2, .nl), (3, .bool false)]) (H2 := [.box [lsv (encI .u8) 1 x0.Oper_.I_, lsv (encI .u8) 1 x0.Oper_.F_, .int .i64 x0.Oper_.W_, .int .i64 x0.Oper_.C_]]) (by kernel_rfl) ?_
  refine RJ.end (by kernel_rfl) ?_
  refine PJ.next ?_
  refine K.seq (by kernel_rfl) ?_
  refine K.region (by kernel_rfl) ?_
  refine RJ.seg 4 [2, 3, 7] (L2 := [(2, .nl), (3, .bool false), (7, .int .i64 (x0.Oper_.F_.length : Int))]) (H2 := [.box [lsv (encI .u8) 1 x0.Oper_.I_, lsv (encI .u8) 1 x0.Oper_.F_, .int .i64 x0.Oper_.W_, .int .i64 x0.Oper_.C_]]) (by kernel_rfl) ?_
  obtain ⟨y1, hy2, h3⟩ := bindS h
  refine RJ.call0 (d := (some 8)) (f := 42) (args := [.int .i64 (x0.Oper_.F_.length : Int)]) (v := lsv (encI .u8) 1 y1) (tr2 := []) (by kernel_rfl) (by kernel_rfl) (.cons (Le.refl _) .nil) (oper_spell_ok hy2) (by kernel_rfl) ?_
  refine RJ.seg 2 [2, 3] (L2 := [(2, lsv (encI .u8) 1 y1), (3, .bool true)]) (H2 := [.box [lsv (encI .u8) 1 x0.Oper_.I_, lsv (encI .u8) 1 x0.Oper_.F_, .int .i64 x0.Oper_.W_, .int .i64 x0.Oper_.C_]]) (by kernel_rfl) ?_
  refine RJ.end (by kernel_rfl) ?_
  refine PJ.next ?_
  refine K.ret (by kernel_rfl) ?_
  obtain rfl := Option.some.inj h3
  exact K.ret0 (.inr rfl) hFn hFH hFD (by kernel_rfl) (by kernel_rfl) (by kernel_rfl)

def oper_asked__short (x0 : St58) : Option ((List Int) × Bool) :=
  (Option.bind (oper_spell x0.Oper_.W_) fun y1 => (some (y1, true)))
theorem oper_asked__short_ok {x0 : St58} {r : (List Int) × Bool} (h : oper_asked__short x0 = some r) : SC Try.prog 38 [.agg [lsv (encI .u8) 1 x0.Oper_.I_, lsv (encI .u8) 1 x0.Oper_.F_, .int .i64 x0.Oper_.W_, .int .i64 x0.Oper_.C_]] [] (.tup [lsv (encI .u8) 1 r.1, .bool r.2]) [] := by
  refine K.fn (fn := Try.f38) (by kernel_rfl) (by kernel_rfl) (by kernel_rfl) (by kernel_rfl) (by kernel_rfl) (fun F hFn hFH hFD => ?_)
  unfold oper_asked__short at h
  refine K.seq (by kernel_rfl) ?_
  refine K.region (by kernel_rfl) ?_
  refine RJ.seg 3 [1, 2, 3] (L2 := [(1, .ptr 0 0), (2, .nl), (3, .bool false)]) (H2 := [.box [lsv (encI .u8) 1 x0.Oper_.I_, lsv (encI .u8) 1 x0.Oper_.F_, .int .i64 x0.Oper_.W_, .int .i64 x0.Oper_.C_]]) (by kernel_rfl) ?_
  refine RJ.end (by kernel_rfl) ?_
  refine PJ.next ?_
  refine K.seq (by kernel_rfl) ?_
  refine K.region (by kernel_rfl) ?_
  refine RJ.seg 3 [2, 3, 6] (L2 := [(2, .nl), (3, .bool false), (6, .int .i64 x0.Oper_.W_)]) (H2 := [.box [lsv (encI .u8) 1 x0.Oper_.I_, lsv (encI .u8) 1 x0.Oper_.F_, .int .i64 x0.Oper_.W_, .int .i64 x0.Oper_.C_]]) (by kernel_rfl) ?_
  obtain ⟨y1, hy2, h3⟩ := bindS h
  refine RJ.call0 (d := (some 7)) (f := 42) (args := [.int .i64 x0.Oper_.W_]) (v := lsv (encI .u8) 1 y1) (tr2 := []) (by kernel_rfl) (by kernel_rfl) (.cons (Le.refl _) .nil) (oper_spell_ok hy2) (by kernel_rfl) ?_
  refine RJ.seg 2 [2, 3] (L2 := [(2, lsv (encI .u8) 1 y1), (3, .bool true)]) (H2 := [.box [lsv (encI .u8) 1 x0.Oper_.I_, lsv (encI .u8) 1 x0.Oper_.F_, .int .i64 x0.Oper_.W_, .int .i64 x0.Oper_.C_]]) (by kernel_rfl) ?_
  refine RJ.end (by kernel_rfl) ?_
  refine PJ.next ?_
  refine K.ret (by kernel_rfl) ?_
  obtain rfl := Option.some.inj h3
  exact K.ret0 (.inr rfl) hFn hFH hFD (by kernel_rfl) (by kernel_rfl) (by kernel_rfl)

def oper_asked__part (x0 : St58) : Option ((List Int) × Bool) :=
  (Option.bind (oper_strip x0.Oper_.F_) fun y1 => (some (y1, true)))
theorem oper_asked__part_ok {x0 : St58} {r : (List Int) × Bool} (h : oper_asked__part x0 = some r) : SC Try.prog 39 [.agg [lsv (encI .u8) 1 x0.Oper_.I_, lsv (encI .u8) 1 x0.Oper_.F_, .int .i64 x0.Oper_.W_, .int .i64 x0.Oper_.C_]] [] (.tup [lsv (encI .u8) 1 r.1, .bool r.2]) [] := by
  refine K.fn (fn := Try.f39) (by kernel_rfl) (by kernel_rfl) (by kernel_rfl) (by kernel_rfl) (by kernel_rfl) (fun F hFn hFH hFD => ?_)
  unfold oper_asked__part at h
  refine K.seq (by kernel_rfl) ?_
  refine K.region (by kernel_rfl) ?_
  refine RJ.seg 3 [1, 2, 3] (L2 := [(1, .ptr 0 0), (2, .nl), (3, .bool false)]) (H2 := [.box [lsv (encI .u8) 1 x0.Oper_.I_, lsv (encI .u8) 1 x0.Oper_.F_, .int .i64 x0.Oper_.W_, .int .i64 x0.Oper_.C_]]) (by kernel_rfl) ?_
  refine RJ.end (by kernel_rfl) ?_
  refine PJ.next ?_
  refine K.seq (by kernel_rfl) ?_
  refine K.region (by kernel_rfl) ?_
  refine RJ.seg 3 [2, 3, 6] (L2 := [(2, .nl), (3, .bool false), (6, lsv (encI .u8) 1 x0.Oper_.F_)]) (H2 := [.box [lsv (encI .u8) 1 x0.Oper_.I_, lsv (encI .u8) 1 x0.Oper_.F_, .int .i64 x0.Oper_.W_, .int .i64 x0.Oper_.C_]]) (by kernel_rfl) ?_
  obtain ⟨y1, hy2, h3⟩ := bindS h
  refine RJ.call0 (d := (some 7)) (f := 27) (args := [lsv (encI .u8) 1 x0.Oper_.F_]) (v := lsv (encI .u8) 1 y1) (tr2 := []) (by kernel_rfl) (by kernel_rfl) (.cons (Le.refl _) .nil) (oper_strip_ok hy2) (by kernel_rfl) ?_
  refine RJ.seg 2 [2, 3] (L2 := [(2, lsv (encI .u8) 1 y1), (3, .bool true)]) (H2 := [.box [lsv (encI .u8) 1 x0.Oper_.I_, lsv (encI .u8) 1 x0.Oper_.F_, .int .i64 x0.Oper_.W_, .int .i64 x0.Oper_.C_]]) (by kernel_rfl) ?_
  refine RJ.end (by kernel_rfl) ?_
  refine PJ.next ?_
  refine K.ret (by kernel_rfl) ?_
  obtain rfl := Option.some.inj h3
  exact K.ret0 (.inr rfl) hFn hFH hFD (by kernel_rfl) (by kernel_rfl) (by kernel_rfl)

def oper_asked__cut (x0 : St58) : Option ((List Int) × Bool) :=
  (bif inS 0 x0.Oper_.W_ x0.Oper_.F_.length then (Option.bind (oper_strip (cut x0.Oper_.F_ 0 x0.Oper_.W_)) fun y2 => (some (y2, true))) else none)
theorem oper_asked__cut_ok {x0 : St58} {r : (List Int) × Bool} (h : oper_asked__cut x0 = some r) : SC Try.prog 40 [.agg [lsv (encI .u8) 1 x0.Oper_.I_, lsv (encI .u8) 1 x0.Oper_.F_, .int .i64 x0.Oper_.W_, .int .i64 x0.Oper_.C_]] [] (.tup [lsv (encI .u8) 1 r.1, .bool r.2]) [] := by
  refine K.fn (fn := Try.f40) (by kernel_rfl) (by kernel_rfl) (by kernel_rfl) (by kernel_rfl) (by kernel_rfl) (fun F hFn hFH hFD => ?_)
  unfold oper_asked__cut at h
  refine K.seq (by kernel_rfl) ?_
  refine K.region (by kernel_rfl) ?_
  refine RJ.seg 3 [1, 2, 3] (L2 := [(1, .ptr 0 0), (2, .nl), (3, .bool false)]) (H2 := [.box [lsv (encI .u8) 1 x0.Oper_.I_, lsv (encI .u8) 1 x0.Oper_.F_, .int .i64 x0.Oper_.W_, .int .i64 x0.Oper_.C_]]) (by kernel_rfl) ?_
  refine RJ.end (by kernel_rfl) ?_
  refine PJ.next ?_
  refine K.seq (by kernel_rfl) ?_
  refine K.region (by kernel_rfl) ?_
  refine RJ.seg 6 [2, 3, 6, 9] (L2 := [(2, .nl), (3, .bool false), (6, lsv (encI .u8) 1 x0.Oper_.F_), (9, .int .i64 x0.Oper_.W_)]) (H2 := [.box [lsv (encI .u8) 1 x0.Oper_.I_, lsv (encI .u8) 1 x0.Oper_.F_, .int .i64 x0.Oper_.W_, .int .i64 x0.Oper_.C_]]) (by kernel_rfl) ?_
  obtain ⟨hm, h1⟩ := asrt h
  refine RJ.rel (d := (some 10)) (ef := ⟨.lst ((x0.Oper_.W_ : Int).toNat - (0 : Int).toNat) 1 (((x0.Oper_.F_.flatMap (encI .u8)).take ((x0.Oper_.W_ : Int).toNat * 1)).drop ((0 : Int).toNat * 1)), [], []⟩) (ef' := ⟨.lst (cut x0.Oper_.F_ 0 x0.Oper_.W_).length 1 ((cut x0.Oper_.F_ 0 x0.Oper_.W_).flatMap (encI .u8)), [], []⟩) (c := inS 0 x0.Oper_.W_ x0.Oper_.F_.length) (tr2 := []) (H2 := [.box [lsv (encI .u8) 1 x0.Oper_.I_, lsv (encI .u8) 1 x0.Oper_.F_, .int .i64 x0.Oper_.W_, .int .i64 x0.Oper_.C_]]) (by kernel_rfl) hm (fun hc => N.slice (encI_len .u8) hc) (by kernel_rfl) ?_
  obtain ⟨y2, hy3, h4⟩ := bindS h1
  refine RJ.call0 (d := (some 11)) (f := 27) (args := [lsv (encI .u8) 1 (cut x0.Oper_.F_ 0 x0.Oper_.W_)]) (v := lsv (encI .u8) 1 y2) (tr2 := []) (by kernel_rfl) (by kernel_rfl) (.cons (Le.refl _) .nil) (oper_strip_ok hy3) (by kernel_rfl) ?_
  refine RJ.seg 2 [2, 3] (L2 := [(2, lsv (encI .u8) 1 y2), (3, .bool true)]) (H2 := [.box [lsv (encI .u8) 1 x0.Oper_.I_, lsv (encI .u8) 1 x0.Oper_.F_, .int .i64 x0.Oper_.W_, .int .i64 x0.Oper_.C_]]) (by kernel_rfl) ?_
  refine RJ.end (by kernel_rfl) ?_
  refine PJ.next ?_
  refine K.ret (by kernel_rfl) ?_
  obtain rfl := Option.some.inj h4
  exact K.ret0 (.inr rfl) hFn hFH hFD (by kernel_rfl) (by kernel_rfl) (by kernel_rfl)

def oper_asked__power (x0 : St58) : Option ((List Int) × Bool) :=
  (Option.bind (oper_spell x0.Oper_.C_) fun y1 => (some (y1, true)))
theorem oper_asked__power_ok {x0 : St58} {r : (List Int) × Bool} (h : oper_asked__power x0 = some r) : SC Try.prog 41 [.agg [lsv (encI .u8) 1 x0.Oper_.I_, lsv (encI .u8) 1 x0.Oper_.F_, .int .i64 x0.Oper_.W_, .int .i64 x0.Oper_.C_]] [] (.tup [lsv (encI .u8) 1 r.1, .bool r.2]) [] := by
  refine K.fn (fn := Try.f41) (by kernel_rfl) (by kernel_rfl) (by kernel_rfl) (by kernel_rfl) (by kernel_rfl) (fun F hFn hFH hFD => ?_)
  unfold oper_asked__power at h
  refine K.seq (by kernel_rfl) ?_
  refine K.region (by kernel_rfl) ?_
  refine RJ.seg 3 [1, 2, 3] (L2 := [(1, .ptr 0 0), (2, .nl), (3, .bool false)]) (H2 := [.box [lsv (encI .u8) 1 x0.Oper_.I_, lsv (encI .u8) 1 x0.Oper_.F_, .int .i64 x0.Oper_.W_, .int .i64 x0.Oper_.C_]]) (by kernel_rfl) ?_
  refine RJ.end (by kernel_rfl) ?_
  refine PJ.next ?_
  refine K.seq (by kernel_rfl) ?_
  refine K.region (by kernel_rfl) ?_
  refine RJ.seg 3 [2, 3, 6] (L2 := [(2, .nl), (3, .bool false), (6, .int .i64 x0.Oper_.C_)]) (H2 := [.box [lsv (encI .u8) 1 x0.Oper_.I_, lsv (encI .u8) 1 x0.Oper_.F_, .int .i64 x0.Oper_.W_, .int .i64 x0.Oper_.C_]]) (by kernel_rfl) ?_
  obtain ⟨y1, hy2, h3⟩ := bindS h
  refine RJ.call0 (d := (some 7)) (f := 42) (args := [.int .i64 x0.Oper_.C_]) (v := lsv (encI .u8) 1 y1) (tr2 := []) (by kernel_rfl) (by kernel_rfl) (.cons (Le.refl _) .nil) (oper_spell_ok hy2) (by kernel_rfl) ?_
  refine RJ.seg 2 [2, 3] (L2 := [(2, lsv (encI .u8) 1 y1), (3, .bool true)]) (H2 := [.box [lsv (encI .u8) 1 x0.Oper_.I_, lsv (encI .u8) 1 x0.Oper_.F_, .int .i64 x0.Oper_.W_, .int .i64 x0.Oper_.C_]]) (by kernel_rfl) ?_
  refine RJ.end (by kernel_rfl) ?_
  refine PJ.next ?_
  refine K.ret (by kernel_rfl) ?_
  obtain rfl := Option.some.inj h3
  exact K.ret0 (.inr rfl) hFn hFH hFD (by kernel_rfl) (by kernel_rfl) (by kernel_rfl)

def oper_Operand (x0 : St23) (x1 : Int) : Option ((List Int) × Bool) :=
  (Option.bind (oper_Right x0) fun y1 => (bif (!y1) then (some (([] : List Int), false)) else (Option.bind (oper_asked__operands_s0 (⟨x0⟩ : St58)) fun y7 => (bif (decide (x1 = 110)) then (Option.bind (oper_asked__number (⟨x0⟩ : St58)) fun y14 => (some (y14.1, y14.2))) else (bif (decide (x1 = 105)) then (Option.bind (oper_asked__whole (⟨x0⟩ : St58)) fun y21 => (some (y21.1, y21.2))) else (bif (decide (x1 = 118)) then (Option.bind (oper_asked__long (⟨x0⟩ : St58)) fun y28 => (some (y28.1, y28.2))) else (bif (decide (x1 = 119)) then (Option.bind (oper_asked__short (⟨x0⟩ : St58)) fun y35 => (some (y35.1, y35.2))) else (bif (decide (x1 = 102)) then (Option.bind (oper_asked__part (⟨x0⟩ : St58)) fun y42 => (some (y42.1, y42.2))) else (bif (decide (x1 = 116)) then (Option.bind (oper_asked__cut (⟨x0⟩ : St58)) fun y49 => (some (y49.1, y49.2))) else (bif (decide (x1 = 99)) then (Option.bind (oper_asked__power (⟨x0⟩ : St58)) fun y56 => (some (y56.1, y56.2))) else (bif (decide (x1 = 101)) then (Option.bind (oper_asked__power (⟨x0⟩ : St58)) fun y63 => (some (y63.1, y63.2))) else (some (([] : List Int), false)))))))))))))
theorem oper_Operand_ok {x0 : St23} {x1 : Int} {r : (List Int) × Bool} (h : oper_Operand x0 x1 = some r) : SC Try.prog 18 [.agg [lsv (encI .u8) 1 x0.I_, lsv (encI .u8) 1 x0.F_, .int .i64 x0.W_, .int .i64 x0.C_], .int .u8 x1] [] (.tup [lsv (encI .u8) 1 r.1, .bool r.2]) [] := by
  refine K.fn (fn := Try.f18) (by kernel_rfl) (by kernel_rfl) (by kernel_rfl) (by kernel_rfl) (by kernel_rfl) (fun F hFn hFH hFD => ?_)
  unfold oper_Operand at h
  refine K.seq (by kernel_rfl) ?_
  refine K.region (by kernel_rfl) ?_
  refine RJ.seg 3 [1, 2, 4, 5] (L2 := [(1, .int .u8 x1), (2, .ptr 0 0), (4, .nl), (5, .bool false)]) (H2 := [.box [lsv (encI .u8) 1 x0.I_, lsv (encI .u8) 1 x0.F_, .int .i64 x0.W_, .int .i64 x0.C_]]) (by kernel_rfl) ?_
  refine RJ.end (by kernel_rfl) ?_
  refine PJ.next ?_
  refine K.seq (by kernel_rfl) ?_
  refine K.seq (by kernel_rfl) ?_
  refine K.region (by kernel_rfl) ?_
  refine RJ.seg 1 [1, 2, 4, 5, 8] (L2 := [(1, .int .u8 x1), (2, .ptr 0 0), (4, .nl), (5, .bool false), (8, .agg [lsv (encI .u8) 1 x0.I_, lsv (encI .u8) 1 x0.F_, .int .i64 x0.W_, .int .i64 x0.C_])]) (H2 := [.box [lsv (encI .u8) 1 x0.I_, lsv (encI .u8) 1 x0.F_, .int .i64 x0.W_, .int .i64 x0.C_]]) (by kernel_rfl) ?_
  obtain ⟨y1, hy2, h3⟩ := bindS h
  refine RJ.call0 (d := (some 9)) (f := 16) (args := [.agg [lsv (encI .u8) 1 x0.I_, lsv (encI .u8) 1 x0.F_, .int .i64 x0.W_, .int .i64 x0.C_]]) (v := .bool y1) (tr2 := []) (by kernel_rfl) (by kernel_rfl) (.cons (Le.refl _) .nil) (oper_Right_ok hy2) (by kernel_rfl) ?_
  refine RJ.seg 1 [1, 2, 4, 5, 10] (L2 := [(1, .int .u8 x1), (2, .ptr 0 0), (4, .nl), (5, .bool false), (10, .bool (!y1))]) (H2 := [.box [lsv (encI .u8) 1 x0.I_, lsv (encI .u8) 1 x0.F_, .int .i64 x0.W_, .int .i64 x0.C_]]) (by kernel_rfl) ?_
  refine RJ.end (by kernel_rfl) ?_
  refine PJ.next ?_
  refine J.caseB 10 (b := (!y1)) (by kernel_rfl) (fun hb4 => ?_) (fun hb4 => ?_)
  · have h5 := condT hb4 h3
    refine K.condT (by kernel_rfl) ?_
    refine K.seq (by kernel_rfl) ?_
    refine K.region (by kernel_rfl) ?_
    refine RJ.seg 2 [1, 2, 4, 5] (L2 := [(1, .int .u8 x1), (2, .ptr 0 0), (4, .nl), (5, .bool false)]) (H2 := [.box [lsv (encI .u8) 1 x0.I_, lsv (encI .u8) 1 x0.F_, .int .i64 x0.W_, .int .i64 x0.C_]]) (by kernel_rfl) ?_
    refine RJ.end (by kernel_rfl) ?_
    refine PJ.next ?_
    refine K.ret (by kernel_rfl) ?_
    refine PJ.passRet ?_
    obtain rfl := Option.some.inj h5
    refine PJ.res (v1 := .tup [.nl, .bool false]) (Le.tup (.cons (Le.nl _) (.cons (Le.refl _) .nil))) ?_
    exact K.ret0 (.inr rfl) hFn hFH hFD (by kernel_rfl) (by kernel_rfl) (by kernel_rfl)
  · have h6 := condF hb4 h3
    refine K.condF (by kernel_rfl) ?_
    refine K.skip (by kernel_rfl) ?_
    refine PJ.next ?_
    refine K.seq (by kernel_rfl) ?_
    refine K.region (by kernel_rfl) ?_
    refine RJ.seg 2 [1, 4, 5, 13] (L2 := [(1, .int .u8 x1), (4, .nl), (5, .bool false), (13, .agg [lsv (encI .u8) 1 x0.I_, lsv (encI .u8) 1 x0.F_, .int .i64 x0.W_, .int .i64 x0.C_])]) (H2 := [.box [lsv (encI .u8) 1 x0.I_, lsv (encI .u8) 1 x0.F_, .int .i64 x0.W_, .int .i64 x0.C_]]) (by kernel_rfl) ?_
    obtain ⟨y7, hy8, h9⟩ := bindS h6
    refine RJ.callG (d := (some 14)) (f := 33) (args := [.agg [lsv (encI .u8) 1 x0.I_, lsv (encI .u8) 1 x0.F_, .int .i64 x0.W_, .int .i64 x0.C_]]) (args0 := [.agg [lsv (encI .u8) 1 x0.I_, lsv (encI .u8) 1 x0.F_, .int .i64 x0.W_, .int .i64 x0.C_]]) (v0 := .mp 0) (v := .mp 1) (tr2 := []) (H0 := []) (H0' := [.map [(.int .u8 110, .fn (.func 35) [.agg [lsv (encI .u8) 1 ((⟨x0⟩ : St58).Oper_.I_), lsv (encI .u8) 1 ((⟨x0⟩ : St58).Oper_.F_), .int .i64 ((⟨x0⟩ : St58).Oper_.W_), .int .i64 ((⟨x0⟩ : St58).Oper_.C_)]] []), (.int .u8 105, .fn (.func 36) [.agg [lsv (encI .u8) 1 ((⟨x0⟩ : St58).Oper_.I_), lsv (encI .u8) 1 ((⟨x0⟩ : St58).Oper_.F_), .int .i64 ((⟨x0⟩ : St58).Oper_.W_), .int .i64 ((⟨x0⟩ : St58).Oper_.C_)]] []), (.int .u8 118, .fn (.func 37) [.agg [lsv (encI .u8) 1 ((⟨x0⟩ : St58).Oper_.I_), lsv (encI .u8) 1 ((⟨x0⟩ : St58).Oper_.F_), .int .i64 ((⟨x0⟩ : St58).Oper_.W_), .int .i64 ((⟨x0⟩ : St58).Oper_.C_)]] []), (.int .u8 119, .fn (.func 38) [.agg [lsv (encI .u8) 1 ((⟨x0⟩ : St58).Oper_.I_), lsv (encI .u8) 1 ((⟨x0⟩ : St58).Oper_.F_), .int .i64 ((⟨x0⟩ : St58).Oper_.W_), .int .i64 ((⟨x0⟩ : St58).Oper_.C_)]] []), (.int .u8 102, .fn (.func 39) [.agg [lsv (encI .u8) 1 ((⟨x0⟩ : St58).Oper_.I_), lsv (encI .u8) 1 ((⟨x0⟩ : St58).Oper_.F_), .int .i64 ((⟨x0⟩ : St58).Oper_.W_), .int .i64 ((⟨x0⟩ : St58).Oper_.C_)]] []), (.int .u8 116, .fn (.func 40) [.agg [lsv (encI .u8) 1 ((⟨x0⟩ : St58).Oper_.I_), lsv (encI .u8) 1 ((⟨x0⟩ : St58).Oper_.F_), .int .i64 ((⟨x0⟩ : St58).Oper_.W_), .int .i64 ((⟨x0⟩ : St58).Oper_.C_)]] []), (.int .u8 99, .fn (.func 41) [.agg [lsv (encI .u8) 1 ((⟨x0⟩ : St58).Oper_.I_), lsv (encI .u8) 1 ((⟨x0⟩ : St58).Oper_.F_), .int .i64 ((⟨x0⟩ : St58).Oper_.W_), .int .i64 ((⟨x0⟩ : St58).Oper_.C_)]] []), (.int .u8 101, .fn (.func 41) [.agg [lsv (encI .u8) 1 ((⟨x0⟩ : St58).Oper_.I_), lsv (encI .u8) 1 ((⟨x0⟩ : St58).Oper_.F_), .int .i64 ((⟨x0⟩ : St58).Oper_.W_), .int .i64 ((⟨x0⟩ : St58).Oper_.C_)]] [])]]) (H2 := [.box [lsv (encI .u8) 1 x0.I_, lsv (encI .u8) 1 x0.F_, .int .i64 x0.W_, .int .i64 x0.C_], .map [(.int .u8 110, .fn (.func 35) [.agg [lsv (encI .u8) 1 ((⟨x0⟩ : St58).Oper_.I_), lsv (encI .u8) 1 ((⟨x0⟩ : St58).Oper_.F_), .int .i64 ((⟨x0⟩ : St58).Oper_.W_), .int .i64 ((⟨x0⟩ : St58).Oper_.C_)]] []), (.int .u8 105, .fn (.func 36) [.agg [lsv (encI .u8) 1 ((⟨x0⟩ : St58).Oper_.I_), lsv (encI .u8) 1 ((⟨x0⟩ : St58).Oper_.F_), .int .i64 ((⟨x0⟩ : St58).Oper_.W_), .int .i64 ((⟨x0⟩ : St58).Oper_.C_)]] []), (.int .u8 118, .fn (.func 37) [.agg [lsv (encI .u8) 1 ((⟨x0⟩ : St58).Oper_.I_), lsv (encI .u8) 1 ((⟨x0⟩ : St58).Oper_.F_), .int .i64 ((⟨x0⟩ : St58).Oper_.W_), .int .i64 ((⟨x0⟩ : St58).Oper_.C_)]] []), (.int .u8 119, .fn (.func 38) [.agg [lsv (encI .u8) 1 ((⟨x0⟩ : St58).Oper_.I_), lsv (encI .u8) 1 ((⟨x0⟩ : St58).Oper_.F_), .int .i64 ((⟨x0⟩ : St58).Oper_.W_), .int .i64 ((⟨x0⟩ : St58).Oper_.C_)]] []), (.int .u8 102, .fn (.func 39) [.agg [lsv (encI .u8) 1 ((⟨x0⟩ : St58).Oper_.I_), lsv (encI .u8) 1 ((⟨x0⟩ : St58).Oper_.F_), .int .i64 ((⟨x0⟩ : St58).Oper_.W_), .int .i64 ((⟨x0⟩ : St58).Oper_.C_)]] []), (.int .u8 116, .fn (.func 40) [.agg [lsv (encI .u8) 1 ((⟨x0⟩ : St58).Oper_.I_), lsv (encI .u8) 1 ((⟨x0⟩ : St58).Oper_.F_), .int .i64 ((⟨x0⟩ : St58).Oper_.W_), .int .i64 ((⟨x0⟩ : St58).Oper_.C_)]] []), (.int .u8 99, .fn (.func 41) [.agg [lsv (encI .u8) 1 ((⟨x0⟩ : St58).Oper_.I_), lsv (encI .u8) 1 ((⟨x0⟩ : St58).Oper_.F_), .int .i64 ((⟨x0⟩ : St58).Oper_.W_), .int .i64 ((⟨x0⟩ : St58).Oper_.C_)]] []), (.int .u8 101, .fn (.func 41) [.agg [lsv (encI .u8) 1 ((⟨x0⟩ : St58).Oper_.I_), lsv (encI .u8) 1 ((⟨x0⟩ : St58).Oper_.F_), .int .i64 ((⟨x0⟩ : St58).Oper_.W_), .int .i64 ((⟨x0⟩ : St58).Oper_.C_)]] [])]]) [] (by kernel_rfl) (by kernel_rfl) (by kernel_rfl) (by kernel_rfl) (by decide) (by kernel_rfl) (by kernel_rfl) (by kernel_rfl) (.cons (Le.refl _) .nil) (oper_asked__operands_s0_ok hy8) (by kernel_rfl) (by kernel_rfl) (by kernel_rfl) ?_
    refine RJ.seg 1 [4, 5, 14, 15] (L2 := [(4, .nl), (5, .bool false), (14, .mp 1), (15, .int .u8 x1)]) (H2 := [.box [lsv (encI .u8) 1 x0.I_, lsv (encI .u8) 1 x0.F_, .int .i64 x0.W_, .int .i64 x0.C_], .map [(.int .u8 110, .fn (.func 35) [.agg [lsv (encI .u8) 1 ((⟨x0⟩ : St58).Oper_.I_), lsv (encI .u8) 1 ((⟨x0⟩ : St58).Oper_.F_), .int .i64 ((⟨x0⟩ : St58).Oper_.W_), .int .i64 ((⟨x0⟩ : St58).Oper_.C_)]] []), (.int .u8 105, .fn (.func 36) [.agg [lsv (encI .u8) 1 ((⟨x0⟩ : St58).Oper_.I_), lsv (encI .u8) 1 ((⟨x0⟩ : St58).Oper_.F_), .int .i64 ((⟨x0⟩ : St58).Oper_.W_), .int .i64 ((⟨x0⟩ : St58).Oper_.C_)]] []), (.int .u8 118, .fn (.func 37) [.agg [lsv (encI .u8) 1 ((⟨x0⟩ : St58).Oper_.I_), lsv (encI .u8) 1 ((⟨x0⟩ : St58).Oper_.F_), .int .i64 ((⟨x0⟩ : St58).Oper_.W_), .int .i64 ((⟨x0⟩ : St58).Oper_.C_)]] []), (.int .u8 119, .fn (.func 38) [.agg [lsv (encI .u8) 1 ((⟨x0⟩ : St58).Oper_.I_), lsv (encI .u8) 1 ((⟨x0⟩ : St58).Oper_.F_), .int .i64 ((⟨x0⟩ : St58).Oper_.W_), .int .i64 ((⟨x0⟩ : St58).Oper_.C_)]] []), (.int .u8 102, .fn (.func 39) [.agg [lsv (encI .u8) 1 ((⟨x0⟩ : St58).Oper_.I_), lsv (encI .u8) 1 ((⟨x0⟩ : St58).Oper_.F_), .int .i64 ((⟨x0⟩ : St58).Oper_.W_), .int .i64 ((⟨x0⟩ : St58).Oper_.C_)]] []), (.int .u8 116, .fn (.func 40) [.agg [lsv (encI .u8) 1 ((⟨x0⟩ : St58).Oper_.I_), lsv (encI .u8) 1 ((⟨x0⟩ : St58).Oper_.F_), .int .i64 ((⟨x0⟩ : St58).Oper_.W_), .int .i64 ((⟨x0⟩ : St58).Oper_.C_)]] []), (.int .u8 99, .fn (.func 41) [.agg [lsv (encI .u8) 1 ((⟨x0⟩ : St58).Oper_.I_), lsv (encI .u8) 1 ((⟨x0⟩ : St58).Oper_.F_), .int .i64 ((⟨x0⟩ : St58).Oper_.W_), .int .i64 ((⟨x0⟩ : St58).Oper_.C_)]] []), (.int .u8 101, .fn (.func 41) [.agg [lsv (encI .u8) 1 ((⟨x0⟩ : St58).Oper_.I_), lsv (encI .u8) 1 ((⟨x0⟩ : St58).Oper_.F_), .int .i64 ((⟨x0⟩ : St58).Oper_.W_), .int .i64 ((⟨x0⟩ : St58).Oper_.C_)]] [])]]) (by kernel_rfl) ?_
    cases hb10 : (decide (x1 = 110))
    · have h12 := condF hb10 h9
      have hn13 := of_decide_eq_false hb10
      cases hb17 : (decide (x1 = 105))
      · have h19 := condF hb17 h12
        have hn20 := of_decide_eq_false hb17
        cases hb24 : (decide (x1 = 118))
        · have h26 := condF hb24 h19
          have hn27 := of_decide_eq_false hb24
          cases hb31 : (decide (x1 = 119))
          · have h33 := condF hb31 h26
            have hn34 := of_decide_eq_false hb31
            cases hb38 : (decide (x1 = 102))
            · have h40 := condF hb38 h33
              have hn41 := of_decide_eq_false hb38
              cases hb45 : (decide (x1 = 116))
              · have h47 := condF hb45 h40
                have hn48 := of_decide_eq_false hb45
                cases hb52 : (decide (x1 = 99))
                · have h54 := condF hb52 h47
                  have hn55 := of_decide_eq_false hb52
                  cases hb59 : (decide (x1 = 101))
                  · have h61 := condF hb59 h54
                    have hn62 := of_decide_eq_false hb59
                    refine RJ.look (none) (d := some 16) (ef := ⟨.tup [.undef, .bool false], [1], []⟩) (c := missC (.int .u8 x1) [(.int .u8 110, .fn (.func 35) [.agg [lsv (encI .u8) 1 ((⟨x0⟩ : St58).Oper_.I_), lsv (encI .u8) 1 ((⟨x0⟩ : St58).Oper_.F_), .int .i64 ((⟨x0⟩ : St58).Oper_.W_), .int .i64 ((⟨x0⟩ : St58).Oper_.C_)]] []), (.int .u8 105, .fn (.func 36) [.agg [lsv (encI .u8) 1 ((⟨x0⟩ : St58).Oper_.I_), lsv (encI .u8) 1 ((⟨x0⟩ : St58).Oper_.F_), .int .i64 ((⟨x0⟩ : St58).Oper_.W_), .int .i64 ((⟨x0⟩ : St58).Oper_.C_)]] []), (.int .u8 118, .fn (.func 37) [.agg [lsv (encI .u8) 1 ((⟨x0⟩ : St58).Oper_.I_), lsv (encI .u8) 1 ((⟨x0⟩ : St58).Oper_.F_), .int .i64 ((⟨x0⟩ : St58).Oper_.W_), .int .i64 ((⟨x0⟩ : St58).Oper_.C_)]] []), (.int .u8 119, .fn (.func 38) [.agg [lsv (encI .u8) 1 ((⟨x0⟩ : St58).Oper_.I_), lsv (encI .u8) 1 ((⟨x0⟩ : St58).Oper_.F_), .int .i64 ((⟨x0⟩ : St58).Oper_.W_), .int .i64 ((⟨x0⟩ : St58).Oper_.C_)]] []), (.int .u8 102, .fn (.func 39) [.agg [lsv (encI .u8) 1 ((⟨x0⟩ : St58).Oper_.I_), lsv (encI .u8) 1 ((⟨x0⟩ : St58).Oper_.F_), .int .i64 ((⟨x0⟩ : St58).Oper_.W_), .int .i64 ((⟨x0⟩ : St58).Oper_.C_)]] []), (.int .u8 116, .fn (.func 40) [.agg [lsv (encI .u8) 1 ((⟨x0⟩ : St58).Oper_.I_), lsv (encI .u8) 1 ((⟨x0⟩ : St58).Oper_.F_), .int .i64 ((⟨x0⟩ : St58).Oper_.W_), .int .i64 ((⟨x0⟩ : St58).Oper_.C_)]] []), (.int .u8 99, .fn (.func 41) [.agg [lsv (encI .u8) 1 ((⟨x0⟩ : St58).Oper_.I_), lsv (encI .u8) 1 ((⟨x0⟩ : St58).Oper_.F_), .int .i64 ((⟨x0⟩ : St58).Oper_.W_), .int .i64 ((⟨x0⟩ : St58).Oper_.C_)]] []), (.int .u8 101, .fn (.func 41) [.agg [lsv (encI .u8) 1 ((⟨x0⟩ : St58).Oper_.I_), lsv (encI .u8) 1 ((⟨x0⟩ : St58).Oper_.F_), .int .i64 ((⟨x0⟩ : St58).Oper_.W_), .int .i64 ((⟨x0⟩ : St58).Oper_.C_)]] [])]) (tr2 := []) (by kernel_rfl) (by simp [hitC, missC, sameB, sameE, hn13, hn20, hn27, hn34, hn41, hn48, hn55, hn62]) ?_
                    refine RJ.seg 5 [4, 5, 7] (L2 := [(4, .nl), (5, .bool false), (7, .bool false)]) (H2 := [.box [lsv (encI .u8) 1 x0.I_, lsv (encI .u8) 1 x0.F_, .int .i64 x0.W_, .int .i64 x0.C_], .map [(.int .u8 110, .fn (.func 35) [.agg [lsv (encI .u8) 1 ((⟨x0⟩ : St58).Oper_.I_), lsv (encI .u8) 1 ((⟨x0⟩ : St58).Oper_.F_), .int .i64 ((⟨x0⟩ : St58).Oper_.W_), .int .i64 ((⟨x0⟩ : St58).Oper_.C_)]] []), (.int .u8 105, .fn (.func 36) [.agg [lsv (encI .u8) 1 ((⟨x0⟩ : St58).Oper_.I_), lsv (encI .u8) 1 ((⟨x0⟩ : St58).Oper_.F_), .int .i64 ((⟨x0⟩ : St58).Oper_.W_), .int .i64 ((⟨x0⟩ : St58).Oper_.C_)]] []), (.int .u8 118, .fn (.func 37) [.agg [lsv (encI .u8) 1 ((⟨x0⟩ : St58).Oper_.I_), lsv (encI .u8) 1 ((⟨x0⟩ : St58).Oper_.F_), .int .i64 ((⟨x0⟩ : St58).Oper_.W_), .int .i64 ((⟨x0⟩ : St58).Oper_.C_)]] []), (.int .u8 119, .fn (.func 38) [.agg [lsv (encI .u8) 1 ((⟨x0⟩ : St58).Oper_.I_), lsv (encI .u8) 1 ((⟨x0⟩ : St58).Oper_.F_), .int .i64 ((⟨x0⟩ : St58).Oper_.W_), .int .i64 ((⟨x0⟩ : St58).Oper_.C_)]] []), (.int .u8 102, .fn (.func 39) [.agg [lsv (encI .u8) 1 ((⟨x0⟩ : St58).Oper_.I_), lsv (encI .u8) 1 ((⟨x0⟩ : St58).Oper_.F_), .int .i64 ((⟨x0⟩ : St58).Oper_.W_), .int .i64 ((⟨x0⟩ : St58).Oper_.C_)]] []), (.int .u8 116, .fn (.func 40) [.agg [lsv (encI .u8) 1 ((⟨x0⟩ : St58).Oper_.I_), lsv (encI .u8) 1 ((⟨x0⟩ : St58).Oper_.F_), .int .i64 ((⟨x0⟩ : St58).Oper_.W_), .int .i64 ((⟨x0⟩ : St58).Oper_.C_)]] []), (.int .u8 99, .fn (.func 41) [.agg [lsv (encI .u8) 1 ((⟨x0⟩ : St58).Oper_.I_), lsv (encI .u8) 1 ((⟨x0⟩ : St58).Oper_.F_), .int .i64 ((⟨x0⟩ : St58).Oper_.W_), .int .i64 ((⟨x0⟩ : St58).Oper_.C_)]] []), (.int .u8 101, .fn (.func 41) [.agg [lsv (encI .u8) 1 ((⟨x0⟩ : St58).Oper_.I_), lsv (encI .u8) 1 ((⟨x0⟩ : St58).Oper_.F_), .int .i64 ((⟨x0⟩ : St58).Oper_.W_), .int .i64 ((⟨x0⟩ : St58).Oper_.C_)]] [])]]) (by kernel_rfl) ?_
                    refine RJ.end (by kernel_rfl) ?_
                    refine PJ.next ?_
                    refine K.seq (by kernel_rfl) ?_
                    refine K.seq (by kernel_rfl) ?_
                    refine K.region (by kernel_rfl) ?_
                    refine RJ.seg 2 [4, 5, 20] (L2 := [(4, .nl), (5, .bool false), (20, .bool true)]) (H2 := [.box [lsv (encI .u8) 1 x0.I_, lsv (encI .u8) 1 x0.F_, .int .i64 x0.W_, .int .i64 x0.C_], .map [(.int .u8 110, .fn (.func 35) [.agg [lsv (encI .u8) 1 ((⟨x0⟩ : St58).Oper_.I_), lsv (encI .u8) 1 ((⟨x0⟩ : St58).Oper_.F_), .int .i64 ((⟨x0⟩ : St58).Oper_.W_), .int .i64 ((⟨x0⟩ : St58).Oper_.C_)]] []), (.int .u8 105, .fn (.func 36) [.agg [lsv (encI .u8) 1 ((⟨x0⟩ : St58).Oper_.I_), lsv (encI .u8) 1 ((⟨x0⟩ : St58).Oper_.F_), .int .i64 ((⟨x0⟩ : St58).Oper_.W_), .int .i64 ((⟨x0⟩ : St58).Oper_.C_)]] []), (.int .u8 118, .fn (.func 37) [.agg [lsv (encI .u8) 1 ((⟨x0⟩ : St58).Oper_.I_), lsv (encI .u8) 1 ((⟨x0⟩ : St58).Oper_.F_), .int .i64 ((⟨x0⟩ : St58).Oper_.W_), .int .i64 ((⟨x0⟩ : St58).Oper_.C_)]] []), (.int .u8 119, .fn (.func 38) [.agg [lsv (encI .u8) 1 ((⟨x0⟩ : St58).Oper_.I_), lsv (encI .u8) 1 ((⟨x0⟩ : St58).Oper_.F_), .int .i64 ((⟨x0⟩ : St58).Oper_.W_), .int .i64 ((⟨x0⟩ : St58).Oper_.C_)]] []), (.int .u8 102, .fn (.func 39) [.agg [lsv (encI .u8) 1 ((⟨x0⟩ : St58).Oper_.I_), lsv (encI .u8) 1 ((⟨x0⟩ : St58).Oper_.F_), .int .i64 ((⟨x0⟩ : St58).Oper_.W_), .int .i64 ((⟨x0⟩ : St58).Oper_.C_)]] []), (.int .u8 116, .fn (.func 40) [.agg [lsv (encI .u8) 1 ((⟨x0⟩ : St58).Oper_.I_), lsv (encI .u8) 1 ((⟨x0⟩ : St58).Oper_.F_), .int .i64 ((⟨x0⟩ : St58).Oper_.W_), .int .i64 ((⟨x0⟩ : St58).Oper_.C_)]] []), (.int .u8 99, .fn (.func 41) [.agg [lsv (encI .u8) 1 ((⟨x0⟩ : St58).Oper_.I_), lsv (encI .u8) 1 ((⟨x0⟩ : St58).Oper_.F_), .int .i64 ((⟨x0⟩ : St58).Oper_.W_), .int .i64 ((⟨x0⟩ : St58).Oper_.C_)]] []), (.int .u8 101, .fn (.func 41) [.agg [lsv (encI .u8) 1 ((⟨x0⟩ : St58).Oper_.I_), lsv (encI .u8) 1 ((⟨x0⟩ : St58).Oper_.F_), .int .i64 ((⟨x0⟩ : St58).Oper_.W_), .int .i64 ((⟨x0⟩ : St58).Oper_.C_)]] [])]]) (by kernel_rfl) ?_
                    refine RJ.end (by kernel_rfl) ?_
                    refine PJ.next ?_
                    refine K.condT (by kernel_rfl) ?_
                    refine K.seq (by kernel_rfl) ?_
                    refine K.region (by kernel_rfl) ?_
                    refine RJ.seg 2 [4, 5] (L2 := [(4, .nl), (5, .bool false)]) (H2 := [.box [lsv (encI .u8) 1 x0.I_, lsv (encI .u8) 1 x0.F_, .int .i64 x0.W_, .int .i64 x0.C_], .map [(.int .u8 110, .fn (.func 35) [.agg [lsv (encI .u8) 1 ((⟨x0⟩ : St58).Oper_.I_), lsv (encI .u8) 1 ((⟨x0⟩ : St58).Oper_.F_), .int .i64 ((⟨x0⟩ : St58).Oper_.W_), .int .i64 ((⟨x0⟩ : St58).Oper_.C_)]] []), (.int .u8 105, .fn (.func 36) [.agg [lsv (encI .u8) 1 ((⟨x0⟩ : St58).Oper_.I_), lsv (encI .u8) 1 ((⟨x0⟩ : St58).Oper_.F_), .int .i64 ((⟨x0⟩ : St58).Oper_.W_), .int .i64 ((⟨x0⟩ : St58).Oper_.C_)]] []), (.int .u8 118, .fn (.func 37) [.agg [lsv (encI .u8) 1 ((⟨x0⟩ : St58).Oper_.I_), lsv (encI .u8) 1 ((⟨x0⟩ : St58).Oper_.F_), .int .i64 ((⟨x0⟩ : St58).Oper_.W_), .int .i64 ((⟨x0⟩ : St58).Oper_.C_)]] []), (.int .u8 119, .fn (.func 38) [.agg [lsv (encI .u8) 1 ((⟨x0⟩ : St58).Oper_.I_), lsv (encI .u8) 1 ((⟨x0⟩ : St58).Oper_.F_), .int .i64 ((⟨x0⟩ : St58).Oper_.W_), .int .i64 ((⟨x0⟩ : St58).Oper_.C_)]] []), (.int .u8 102, .fn (.func 39) [.agg [lsv (encI .u8) 1 ((⟨x0⟩ : St58).Oper_.I_), lsv (encI .u8) 1 ((⟨x0⟩ : St58).Oper_.F_), .int .i64 ((⟨x0⟩ : St58).Oper_.W_), .int .i64 ((⟨x0⟩ : St58).Oper_.C_)]] []), (.int .u8 116, .fn (.func 40) [.agg [lsv (encI .u8) 1 ((⟨x0⟩ : St58).Oper_.I_), lsv (encI .u8) 1 ((⟨x0⟩ : St58).Oper_.F_), .int .i64 ((⟨x0⟩ : St58).Oper_.W_), .int .i64 ((⟨x0⟩ : St58).Oper_.C_)]] []), (.int .u8 99, .fn (.func 41) [.agg [lsv (encI .u8) 1 ((⟨x0⟩ : St58).Oper_.I_), lsv (encI .u8) 1 ((⟨x0⟩ : St58).Oper_.F_), .int .i64 ((⟨x0⟩ : St58).Oper_.W_), .int .i64 ((⟨x0⟩ : St58).Oper_.C_)]] []), (.int .u8 101, .fn (.func 41) [.agg [lsv (encI .u8) 1 ((⟨x0⟩ : St58).Oper_.I_), lsv (encI .u8) 1 ((⟨x0⟩ : St58).Oper_.F_), .int .i64 ((⟨x0⟩ : St58).Oper_.W_), .int .i64 ((⟨x0⟩ : St58).Oper_.C_)]] [])]]) (by kernel_rfl) ?_
                    refine RJ.end (by kernel_rfl) ?_
                    refine PJ.next ?_
                    refine K.ret (by kernel_rfl) ?_
                    refine PJ.passRet ?_
                    obtain rfl := Option.some.inj h61
                    refine PJ.res (v1 := .tup [.nl, .bool false]) (Le.tup (.cons (Le.nl _) (.cons (Le.refl _) .nil))) ?_
                    exact K.ret0 (.inr rfl) hFn hFH hFD (by kernel_rfl) (by kernel_rfl) (by kernel_rfl)
                  · have h60 := condT hb59 h54
                    have hn62 := of_decide_eq_true hb59
                    refine RJ.look (some 7) (d := some 16) (ef := ⟨.tup [.fn (.func 41) [.agg [lsv (encI .u8) 1 ((⟨x0⟩ : St58).Oper_.I_), lsv (encI .u8) 1 ((⟨x0⟩ : St58).Oper_.F_), .int .i64 ((⟨x0⟩ : St58).Oper_.W_), .int .i64 ((⟨x0⟩ : St58).Oper_.C_)]] [], .bool true], [1], []⟩) (c := hitC (.int .u8 x1) [(.int .u8 110, .fn (.func 35) [.agg [lsv (encI .u8) 1 ((⟨x0⟩ : St58).Oper_.I_), lsv (encI .u8) 1 ((⟨x0⟩ : St58).Oper_.F_), .int .i64 ((⟨x0⟩ : St58).Oper_.W_), .int .i64 ((⟨x0⟩ : St58).Oper_.C_)]] []), (.int .u8 105, .fn (.func 36) [.agg [lsv (encI .u8) 1 ((⟨x0⟩ : St58).Oper_.I_), lsv (encI .u8) 1 ((⟨x0⟩ : St58).Oper_.F_), .int .i64 ((⟨x0⟩ : St58).Oper_.W_), .int .i64 ((⟨x0⟩ : St58).Oper_.C_)]] []), (.int .u8 118, .fn (.func 37) [.agg [lsv (encI .u8) 1 ((⟨x0⟩ : St58).Oper_.I_), lsv (encI .u8) 1 ((⟨x0⟩ : St58).Oper_.F_), .int .i64 ((⟨x0⟩ : St58).Oper_.W_), .int .i64 ((⟨x0⟩ : St58).Oper_.C_)]] []), (.int .u8 119, .fn (.func 38) [.agg [lsv (encI .u8) 1 ((⟨x0⟩ : St58).Oper_.I_), lsv (encI .u8) 1 ((⟨x0⟩ : St58).Oper_.F_), .int .i64 ((⟨x0⟩ : St58).Oper_.W_), .int .i64 ((⟨x0⟩ : St58).Oper_.C_)]] []), (.int .u8 102, .fn (.func 39) [.agg [lsv (encI .u8) 1 ((⟨x0⟩ : St58).Oper_.I_), lsv (encI .u8) 1 ((⟨x0⟩ : St58).Oper_.F_), .int .i64 ((⟨x0⟩ : St58).Oper_.W_), .int .i64 ((⟨x0⟩ : St58).Oper_.C_)]] []), (.int .u8 116, .fn (.func 40) [.agg [lsv (encI .u8) 1 ((⟨x0⟩ : St58).Oper_.I_), lsv (encI .u8) 1 ((⟨x0⟩ : St58).Oper_.F_), .int .i64 ((⟨x0⟩ : St58).Oper_.W_), .int .i64 ((⟨x0⟩ : St58).Oper_.C_)]] []), (.int .u8 99, .fn (.func 41) [.agg [lsv (encI .u8) 1 ((⟨x0⟩ : St58).Oper_.I_), lsv (encI .u8) 1 ((⟨x0⟩ : St58).Oper_.F_), .int .i64 ((⟨x0⟩ : St58).Oper_.W_), .int .i64 ((⟨x0⟩ : St58).Oper_.C_)]] []), (.int .u8 101, .fn (.func 41) [.agg [lsv (encI .u8) 1 ((⟨x0⟩ : St58).Oper_.I_), lsv (encI .u8) 1 ((⟨x0⟩ : St58).Oper_.F_), .int .i64 ((⟨x0⟩ : St58).Oper_.W_), .int .i64 ((⟨x0⟩ : St58).Oper_.C_)]] [])] 7) (tr2 := []) (by kernel_rfl) (by simp [hitC, missC, sameB, sameE, hn13, hn20, hn27, hn34, hn41, hn48, hn55, hn62]) ?_
                    refine RJ.seg 5 [4, 5, 6, 7] (L2 := [(4, .nl), (5, .bool false), (6, .fn (.func 41) [.agg [lsv (encI .u8) 1 ((⟨x0⟩ : St58).Oper_.I_), lsv (encI .u8) 1 ((⟨x0⟩ : St58).Oper_.F_), .int .i64 ((⟨x0⟩ : St58).Oper_.W_), .int .i64 ((⟨x0⟩ : St58).Oper_.C_)]] []), (7, .bool true)]) (H2 := [.box [lsv (encI .u8) 1 x0.I_, lsv (encI .u8) 1 x0.F_, .int .i64 x0.W_, .int .i64 x0.C_], .map [(.int .u8 110, .fn (.func 35) [.agg [lsv (encI .u8) 1 ((⟨x0⟩ : St58).Oper_.I_), lsv (encI .u8) 1 ((⟨x0⟩ : St58).Oper_.F_), .int .i64 ((⟨x0⟩ : St58).Oper_.W_), .int .i64 ((⟨x0⟩ : St58).Oper_.C_)]] []), (.int .u8 105, .fn (.func 36) [.agg [lsv (encI .u8) 1 ((⟨x0⟩ : St58).Oper_.I_), lsv (encI .u8) 1 ((⟨x0⟩ : St58).Oper_.F_), .int .i64 ((⟨x0⟩ : St58).Oper_.W_), .int .i64 ((⟨x0⟩ : St58).Oper_.C_)]] []), (.int .u8 118, .fn (.func 37) [.agg [lsv (encI .u8) 1 ((⟨x0⟩ : St58).Oper_.I_), lsv (encI .u8) 1 ((⟨x0⟩ : St58).Oper_.F_), .int .i64 ((⟨x0⟩ : St58).Oper_.W_), .int .i64 ((⟨x0⟩ : St58).Oper_.C_)]] []), (.int .u8 119, .fn (.func 38) [.agg [lsv (encI .u8) 1 ((⟨x0⟩ : St58).Oper_.I_), lsv (encI .u8) 1 ((⟨x0⟩ : St58).Oper_.F_), .int .i64 ((⟨x0⟩ : St58).Oper_.W_), .int .i64 ((⟨x0⟩ : St58).Oper_.C_)]] []), (.int .u8 102, .fn (.func 39) [.agg [lsv (encI .u8) 1 ((⟨x0⟩ : St58).Oper_.I_), lsv (encI .u8) 1 ((⟨x0⟩ : St58).Oper_.F_), .int .i64 ((⟨x0⟩ : St58).Oper_.W_), .int .i64 ((⟨x0⟩ : St58).Oper_.C_)]] []), (.int .u8 116, .fn (.func 40) [.agg [lsv (encI .u8) 1 ((⟨x0⟩ : St58).Oper_.I_), lsv (encI .u8) 1 ((⟨x0⟩ : St58).Oper_.F_), .int .i64 ((⟨x0⟩ : St58).Oper_.W_), .int .i64 ((⟨x0⟩ : St58).Oper_.C_)]] []), (.int .u8 99, .fn (.func 41) [.agg [lsv (encI .u8) 1 ((⟨x0⟩ : St58).Oper_.I_), lsv (encI .u8) 1 ((⟨x0⟩ : St58).Oper_.F_), .int .i64 ((⟨x0⟩ : St58).Oper_.W_), .int .i64 ((⟨x0⟩ : St58).Oper_.C_)]] []), (.int .u8 101, .fn (.func 41) [.agg [lsv (encI .u8) 1 ((⟨x0⟩ : St58).Oper_.I_), lsv (encI .u8) 1 ((⟨x0⟩ : St58).Oper_.F_), .int .i64 ((⟨x0⟩ : St58).Oper_.W_), .int .i64 ((⟨x0⟩ : St58).Oper_.C_)]] [])]]) (by kernel_rfl) ?_
                    refine RJ.end (by kernel_rfl) ?_
                    refine PJ.next ?_
                    refine K.seq (by kernel_rfl) ?_
                    refine K.seq (by kernel_rfl) ?_
                    refine K.region (by kernel_rfl) ?_
                    refine RJ.seg 2 [4, 5, 6, 20] (L2 := [(4, .nl), (5, .bool false), (6, .fn (.func 41) [.agg [lsv (encI .u8) 1 ((⟨x0⟩ : St58).Oper_.I_), lsv (encI .u8) 1 ((⟨x0⟩ : St58).Oper_.F_), .int .i64 ((⟨x0⟩ : St58).Oper_.W_), .int .i64 ((⟨x0⟩ : St58).Oper_.C_)]] []), (20, .bool false)]) (H2 := [.box [lsv (encI .u8) 1 x0.I_, lsv (encI .u8) 1 x0.F_, .int .i64 x0.W_, .int .i64 x0.C_], .map [(.int .u8 110, .fn (.func 35) [.agg [lsv (encI .u8) 1 ((⟨x0⟩ : St58).Oper_.I_), lsv (encI .u8) 1 ((⟨x0⟩ : St58).Oper_.F_), .int .i64 ((⟨x0⟩ : St58).Oper_.W_), .int .i64 ((⟨x0⟩ : St58).Oper_.C_)]] []), (.int .u8 105, .fn (.func 36) [.agg [lsv (encI .u8) 1 ((⟨x0⟩ : St58).Oper_.I_), lsv (encI .u8) 1 ((⟨x0⟩ : St58).Oper_.F_), .int .i64 ((⟨x0⟩ : St58).Oper_.W_), .int .i64 ((⟨x0⟩ : St58).Oper_.C_)]] []), (.int .u8 118, .fn (.func 37) [.agg [lsv (encI .u8) 1 ((⟨x0⟩ : St58).Oper_.I_), lsv (encI .u8) 1 ((⟨x0⟩ : St58).Oper_.F_), .int .i64 ((⟨x0⟩ : St58).Oper_.W_), .int .i64 ((⟨x0⟩ : St58).Oper_.C_)]] []), (.int .u8 119, .fn (.func 38) [.agg [lsv (encI .u8) 1 ((⟨x0⟩ : St58).Oper_.I_), lsv (encI .u8) 1 ((⟨x0⟩ : St58).Oper_.F_), .int .i64 ((⟨x0⟩ : St58).Oper_.W_), .int .i64 ((⟨x0⟩ : St58).Oper_.C_)]] []), (.int .u8 102, .fn (.func 39) [.agg [lsv (encI .u8) 1 ((⟨x0⟩ : St58).Oper_.I_), lsv (encI .u8) 1 ((⟨x0⟩ : St58).Oper_.F_), .int .i64 ((⟨x0⟩ : St58).Oper_.W_), .int .i64 ((⟨x0⟩ : St58).Oper_.C_)]] []), (.int .u8 116, .fn (.func 40) [.agg [lsv (encI .u8) 1 ((⟨x0⟩ : St58).Oper_.I_), lsv (encI .u8) 1 ((⟨x0⟩ : St58).Oper_.F_), .int .i64 ((⟨x0⟩ : St58).Oper_.W_), .int .i64 ((⟨x0⟩ : St58).Oper_.C_)]] []), (.int .u8 99, .fn (.func 41) [.agg [lsv (encI .u8) 1 ((⟨x0⟩ : St58).Oper_.I_), lsv (encI .u8) 1 ((⟨x0⟩ : St58).Oper_.F_), .int .i64 ((⟨x0⟩ : St58).Oper_.W_), .int .i64 ((⟨x0⟩ : St58).Oper_.C_)]] []), (.int .u8 101, .fn (.func 41) [.agg [lsv (encI .u8) 1 ((⟨x0⟩ : St58).Oper_.I_), lsv (encI .u8) 1 ((⟨x0⟩ : St58).Oper_.F_), .int .i64 ((⟨x0⟩ : St58).Oper_.W_), .int .i64 ((⟨x0⟩ : St58).Oper_.C_)]] [])]]) (by kernel_rfl) ?_
                    refine RJ.end (by kernel_rfl) ?_
                    refine PJ.next ?_
                    refine K.condF (by kernel_rfl) ?_
                    refine K.skip (by kernel_rfl) ?_
                    refine PJ.next ?_
                    refine K.seq (by kernel_rfl) ?_
                    refine K.region (by kernel_rfl) ?_
                    refine RJ.seg 1 [4, 5, 21] (L2 := [(4, .nl), (5, .bool false), (21, .fn (.func 41) [.agg [lsv (encI .u8) 1 ((⟨x0⟩ : St58).Oper_.I_), lsv (encI .u8) 1 ((⟨x0⟩ : St58).Oper_.F_), .int .i64 ((⟨x0⟩ : St58).Oper_.W_), .int .i64 ((⟨x0⟩ : St58).Oper_.C_)]] [])]) (H2 := [.box [lsv (encI .u8) 1 x0.I_, lsv (encI .u8) 1 x0.F_, .int .i64 x0.W_, .int .i64 x0.C_], .map [(.int .u8 110, .fn (.func 35) [.agg [lsv (encI .u8) 1 ((⟨x0⟩ : St58).Oper_.I_), lsv (encI .u8) 1 ((⟨x0⟩ : St58).Oper_.F_), .int .i64 ((⟨x0⟩ : St58).Oper_.W_), .int .i64 ((⟨x0⟩ : St58).Oper_.C_)]] []), (.int .u8 105, .fn (.func 36) [.agg [lsv (encI .u8) 1 ((⟨x0⟩ : St58).Oper_.I_), lsv (encI .u8) 1 ((⟨x0⟩ : St58).Oper_.F_), .int .i64 ((⟨x0⟩ : St58).Oper_.W_), .int .i64 ((⟨x0⟩ : St58).Oper_.C_)]] []), (.int .u8 118, .fn (.func 37) [.agg [lsv (encI .u8) 1 ((⟨x0⟩ : St58).Oper_.I_), lsv (encI .u8) 1 ((⟨x0⟩ : St58).Oper_.F_), .int .i64 ((⟨x0⟩ : St58).Oper_.W_), .int .i64 ((⟨x0⟩ : St58).Oper_.C_)]] []), (.int .u8 119, .fn (.func 38) [.agg [lsv (encI .u8) 1 ((⟨x0⟩ : St58).Oper_.I_), lsv (encI .u8) 1 ((⟨x0⟩ : St58).Oper_.F_), .int .i64 ((⟨x0⟩ : St58).Oper_.W_), .int .i64 ((⟨x0⟩ : St58).Oper_.C_)]] []), (.int .u8 102, .fn (.func 39) [.agg [lsv (encI .u8) 1 ((⟨x0⟩ : St58).Oper_.I_), lsv (encI .u8) 1 ((⟨x0⟩ : St58).Oper_.F_), .int .i64 ((⟨x0⟩ : St58).Oper_.W_), .int .i64 ((⟨x0⟩ : St58).Oper_.C_)]] []), (.int .u8 116, .fn (.func 40) [.agg [lsv (encI .u8) 1 ((⟨x0⟩ : St58).Oper_.I_), lsv (encI .u8) 1 ((⟨x0⟩ : St58).Oper_.F_), .int .i64 ((⟨x0⟩ : St58).Oper_.W_), .int .i64 ((⟨x0⟩ : St58).Oper_.C_)]] []), (.int .u8 99, .fn (.func 41) [.agg [lsv (encI .u8) 1 ((⟨x0⟩ : St58).Oper_.I_), lsv (encI .u8) 1 ((⟨x0⟩ : St58).Oper_.F_), .int .i64 ((⟨x0⟩ : St58).Oper_.W_), .int .i64 ((⟨x0⟩ : St58).Oper_.C_)]] []), (.int .u8 101, .fn (.func 41) [.agg [lsv (encI .u8) 1 ((⟨x0⟩ : St58).Oper_.I_), lsv (encI .u8) 1 ((⟨x0⟩ : St58).Oper_.F_), .int .i64 ((⟨x0⟩ : St58).Oper_.W_), .int .i64 ((⟨x0⟩ : St58).Oper_.C_)]] [])]]) (by kernel_rfl) ?_
                    obtain ⟨y63, hy64, h65⟩ := bindS h60
                    refine RJ.call0 (d := (some 22)) (f := 41) (args := [.agg [lsv (encI .u8) 1 ((⟨x0⟩ : St58).Oper_.I_), lsv (encI .u8) 1 ((⟨x0⟩ : St58).Oper_.F_), .int .i64 ((⟨x0⟩ : St58).Oper_.W_), .int .i64 ((⟨x0⟩ : St58).Oper_.C_)]]) (v := .tup [lsv (encI .u8) 1 y63.1, .bool y63.2]) (tr2 := []) (by kernel_rfl) (by kernel_rfl) (.cons (Le.refl _) .nil) (oper_asked__power_ok hy64) (by kernel_rfl) ?_
                    refine RJ.seg 4 [4, 5] (L2 := [(4, lsv (encI .u8) 1 y63.1), (5, .bool y63.2)]) (H2 := [.box [lsv (encI .u8) 1 x0.I_, lsv (encI .u8) 1 x0.F_, .int .i64 x0.W_, .int .i64 x0.C_], .map [(.int .u8 110, .fn (.func 35) [.agg [lsv (encI .u8) 1 ((⟨x0⟩ : St58).Oper_.I_), lsv (encI .u8) 1 ((⟨x0⟩ : St58).Oper_.F_), .int .i64 ((⟨x0⟩ : St58).Oper_.W_), .int .i64 ((⟨x0⟩ : St58).Oper_.C_)]] []), (.int .u8 105, .fn (.func 36) [.agg [lsv (encI .u8) 1 ((⟨x0⟩ : St58).Oper_.I_), lsv (encI .u8) 1 ((⟨x0⟩ : St58).Oper_.F_), .int .i64 ((⟨x0⟩ : St58).Oper_.W_), .int .i64 ((⟨x0⟩ : St58).Oper_.C_)]] []), (.int .u8 118, .fn (.func 37) [.agg [lsv (encI .u8) 1 ((⟨x0⟩ : St58).Oper_.I_), lsv (encI .u8) 1 ((⟨x0⟩ : St58).Oper_.F_), .int .i64 ((⟨x0⟩ : St58).Oper_.W_), .int .i64 ((⟨x0⟩ : St58).Oper_.C_)]] []), (.int .u8 119, .fn (.func 38) [.agg [lsv (encI .u8) 1 ((⟨x0⟩ : St58).Oper_.I_), lsv (encI .u8) 1 ((⟨x0⟩ : St58).Oper_.F_), .int .i64 ((⟨x0⟩ : St58).Oper_.W_), .int .i64 ((⟨x0⟩ : St58).Oper_.C_)]] []), (.int .u8 102, .fn (.func 39) [.agg [lsv (encI .u8) 1 ((⟨x0⟩ : St58).Oper_.I_), lsv (encI .u8) 1 ((⟨x0⟩ : St58).Oper_.F_), .int .i64 ((⟨x0⟩ : St58).Oper_.W_), .int .i64 ((⟨x0⟩ : St58).Oper_.C_)]] []), (.int .u8 116, .fn (.func 40) [.agg [lsv (encI .u8) 1 ((⟨x0⟩ : St58).Oper_.I_), lsv (encI .u8) 1 ((⟨x0⟩ : St58).Oper_.F_), .int .i64 ((⟨x0⟩ : St58).Oper_.W_), .int .i64 ((⟨x0⟩ : St58).Oper_.C_)]] []), (.int .u8 99, .fn (.func 41) [.agg [lsv (encI .u8) 1 ((⟨x0⟩ : St58).Oper_.I_), lsv (encI .u8) 1 ((⟨x0⟩ : St58).Oper_.F_), .int .i64 ((⟨x0⟩ : St58).Oper_.W_), .int .i64 ((⟨x0⟩ : St58).Oper_.C_)]] []), (.int .u8 101, .fn (.func 41) [.agg [lsv (encI .u8) 1 ((⟨x0⟩ : St58).Oper_.I_), lsv (encI .u8) 1 ((⟨x0⟩ : St58).Oper_.F_), .int .i64 ((⟨x0⟩ : St58).Oper_.W_), .int .i64 ((⟨x0⟩ : St58).Oper_.C_)]] [])]]) (by kernel_rfl) ?_
                    refine RJ.end (by kernel_rfl) ?_
                    refine PJ.next ?_
                    refine K.ret (by kernel_rfl) ?_
                    obtain rfl := Option.some.inj h65
                    exact K.ret0 (.inr rfl) hFn hFH hFD (by kernel_rfl) (by kernel_rfl) (by kernel_rfl)
                · have h53 := condT hb52 h47
                  have hn55 := of_decide_eq_true hb52
                  refine RJ.look (some 6) (d := some 16) (ef := ⟨.tup [.fn (.func 41) [.agg [lsv (encI .u8) 1 ((⟨x0⟩ : St58).Oper_.I_), lsv (encI .u8) 1 ((⟨x0⟩ : St58).Oper_.F_), .int .i64 ((⟨x0⟩ : St58).Oper_.W_), .int .i64 ((⟨x0⟩ : St58).Oper_.C_)]] [], .bool true], [1], []⟩) (c := hitC (.int .u8 x1) [(.int .u8 110, .fn (.func 35) [.agg [lsv (encI .u8) 1 ((⟨x0⟩ : St58).Oper_.I_), lsv (encI .u8) 1 ((⟨x0⟩ : St58).Oper_.F_), .int .i64 ((⟨x0⟩ : St58).Oper_.W_), .int .i64 ((⟨x0⟩ : St58).Oper_.C_)]] []), (.int .u8 105, .fn (.func 36) [.agg [lsv (encI .u8) 1 ((⟨x0⟩ : St58).Oper_.I_), lsv (encI .u8) 1 ((⟨x0⟩ : St58).Oper_.F_), .int .i64 ((⟨x0⟩ : St58).Oper_.W_), .int .i64 ((⟨x0⟩ : St58).Oper_.C_)]] []), (.int .u8 118, .fn (.func 37) [.agg [lsv (encI .u8) 1 ((⟨x0⟩ : St58).Oper_.I_), lsv (encI .u8) 1 ((⟨x0⟩ : St58).Oper_.F_), .int .i64 ((⟨x0⟩ : St58).Oper_.W_), .int .i64 ((⟨x0⟩ : St58).Oper_.C_)]] []), (.int .u8 119, .fn (.func 38) [.agg [lsv (encI .u8) 1 ((⟨x0⟩ : St58).Oper_.I_), lsv (encI .u8) 1 ((⟨x0⟩ : St58).Oper_.F_), .int .i64 ((⟨x0⟩ : St58).Oper_.W_), .int .i64 ((⟨x0⟩ : St58).Oper_.C_)]] []), (.int .u8 102, .fn (.func 39) [.agg [lsv (encI .u8) 1 ((⟨x0⟩ : St58).Oper_.I_), lsv (encI .u8) 1 ((⟨x0⟩ : St58).Oper_.F_), .int .i64 ((⟨x0⟩ : St58).Oper_.W_), .int .i64 ((⟨x0⟩ : St58).Oper_.C_)]] []), (.int .u8 116, .fn (.func 40) [.agg [lsv (encI .u8) 1 ((⟨x0⟩ : St58).Oper_.I_), lsv (encI .u8) 1 ((⟨x0⟩ : St58).Oper_.F_), .int .i64 ((⟨x0⟩ : St58).Oper_.W_), .int .i64 ((⟨x0⟩ : St58).Oper_.C_)]] []), (.int .u8 99, .fn (.func 41) [.agg [lsv (encI .u8) 1 ((⟨x0⟩ : St58).Oper_.I_), lsv (encI .u8) 1 ((⟨x0⟩ : St58).Oper_.F_), .int .i64 ((⟨x0⟩ : St58).Oper_.W_), .int .i64 ((⟨x0⟩ : St58).Oper_.C_)]] []), (.int .u8 101, .fn (.func 41) [.agg [lsv (encI .u8) 1 ((⟨x0⟩ : St58).Oper_.I_), lsv (encI .u8) 1 ((⟨x0⟩ : St58).Oper_.F_), .int .i64 ((⟨x0⟩ : St58).Oper_.W_), .int .i64 ((⟨x0⟩ : St58).Oper_.C_)]] [])] 6) (tr2 := []) (by kernel_rfl) (by simp [hitC, missC, sameB, sameE, hn13, hn20, hn27, hn34, hn41, hn48, hn55]) ?_
                  refine RJ.seg 5 [4, 5, 6, 7] (L2 := [(4, .nl), (5, .bool false), (6, .fn (.func 41) [.agg [lsv (encI .u8) 1 ((⟨x0⟩ : St58).Oper_.I_), lsv (encI .u8) 1 ((⟨x0⟩ : St58).Oper_.F_), .int .i64 ((⟨x0⟩ : St58).Oper_.W_), .int .i64 ((⟨x0⟩ : St58).Oper_.C_)]] []), (7, .bool true)]) (H2 := [.box [lsv (encI .u8) 1 x0.I_, lsv (encI .u8) 1 x0.F_, .int .i64 x0.W_, .int .i64 x0.C_], .map [(.int .u8 110, .fn (.func 35) [.agg [lsv (encI .u8) 1 ((⟨x0⟩ : St58).Oper_.I_), lsv (encI .u8) 1 ((⟨x0⟩ : St58).Oper_.F_), .int .i64 ((⟨x0⟩ : St58).Oper_.W_), .int .i64 ((⟨x0⟩ : St58).Oper_.C_)]] []), (.int .u8 105, .fn (.func 36) [.agg [lsv (encI .u8) 1 ((⟨x0⟩ : St58).Oper_.I_), lsv (encI .u8) 1 ((⟨x0⟩ : St58).Oper_.F_), .int .i64 ((⟨x0⟩ : St58).Oper_.W_), .int .i64 ((⟨x0⟩ : St58).Oper_.C_)]] []), (.int .u8 118, .fn (.func 37) [.agg [lsv (encI .u8) 1 ((⟨x0⟩ : St58).Oper_.I_), lsv (encI .u8) 1 ((⟨x0⟩ : St58).Oper_.F_), .int .i64 ((⟨x0⟩ : St58).Oper_.W_), .int .i64 ((⟨x0⟩ : St58).Oper_.C_)]] []), (.int .u8 119, .fn (.func 38) [.agg [lsv (encI .u8) 1 ((⟨x0⟩ : St58).Oper_.I_), lsv (encI .u8) 1 ((⟨x0⟩ : St58).Oper_.F_), .int .i64 ((⟨x0⟩ : St58).Oper_.W_), .int .i64 ((⟨x0⟩ : St58).Oper_.C_)]] []), (.int .u8 102, .fn (.func 39) [.agg [lsv (encI .u8) 1 ((⟨x0⟩ : St58).Oper_.I_), lsv (encI .u8) 1 ((⟨x0⟩ : St58).Oper_.F_), .int .i64 ((⟨x0⟩ : St58).Oper_.W_), .int .i64 ((⟨x0⟩ : St58).Oper_.C_)]] []), (.int .u8 116, .fn (.func 40) [.agg [lsv (encI .u8) 1 ((⟨x0⟩ : St58).Oper_.I_), lsv (encI .u8) 1 ((⟨x0⟩ : St58).Oper_.F_), .int .i64 ((⟨x0⟩ : St58).Oper_.W_), .int .i64 ((⟨x0⟩ : St58).Oper_.C_)]] []), (.int .u8 99, .fn (.func 41) [.agg [lsv (encI .u8) 1 ((⟨x0⟩ : St58).Oper_.I_), lsv (encI .u8) 1 ((⟨x0⟩ : St58).Oper_.F_), .int .i64 ((⟨x0⟩ : St58).Oper_.W_), .int .i64 ((⟨x0⟩ : St58).Oper_.C_)]] []), (.int .u8 101, .fn (.func 41) [.agg [lsv (encI .u8) 1 ((⟨x0⟩ : St58).Oper_.I_), lsv (encI .u8) 1 ((⟨x0⟩ : St58).Oper_.F_), .int .i64 ((⟨x0⟩ : St58).Oper_.W_), .int .i64 ((⟨x0⟩ : St58).Oper_.C_)]] [])]]) (by kernel_rfl) ?_
                  refine RJ.end (by kernel_rfl) ?_
                  refine PJ.next ?_
                  refine K.seq (by kernel_rfl) ?_
                  refine K.seq (by kernel_rfl) ?_
                  refine K.region (by kernel_rfl) ?_
                  refine RJ.seg 2 [4, 5, 6, 20] (L2 := [(4, .nl), (5, .bool false), (6, .fn (.func 41) [.agg [lsv (encI .u8) 1 ((⟨x0⟩ : St58).Oper_.I_), lsv (encI .u8) 1 ((⟨x0⟩ : St58).Oper_.F_), .int .i64 ((⟨x0⟩ : St58).Oper_.W_), .int .i64 ((⟨x0⟩ : St58).Oper_.C_)]] []), (20, .bool false)]) (H2 := [.box [lsv (encI .u8) 1 x0.I_, lsv (encI .u8) 1 x0.F_, .int .i64 x0.W_, .int .i64 x0.C_], .map [(.int .u8 110, .fn (.func 35) [.agg [lsv (encI .u8) 1 ((⟨x0⟩ : St58).Oper_.I_), lsv (encI .u8) 1 ((⟨x0⟩ : St58).Oper_.F_), .int .i64 ((⟨x0⟩ : St58).Oper_.W_), .int .i64 ((⟨x0⟩ : St58).Oper_.C_)]] []), (.int .u8 105, .fn (.func 36) [.agg [lsv (encI .u8) 1 ((⟨x0⟩ : St58).Oper_.I_), lsv (encI .u8) 1 ((⟨x0⟩ : St58).Oper_.F_), .int .i64 ((⟨x0⟩ : St58).Oper_.W_), .int .i64 ((⟨x0⟩ : St58).Oper_.C_)]] []), (.int .u8 118, .fn (.func 37) [.agg [lsv (encI .u8) 1 ((⟨x0⟩ : St58).Oper_.I_), lsv (encI .u8) 1 ((⟨x0⟩ : St58).Oper_.F_), .int .i64 ((⟨x0⟩ : St58).Oper_.W_), .int .i64 ((⟨x0⟩ : St58).Oper_.C_)]] []), (.int .u8 119, .fn (.func 38) [.agg [lsv (encI .u8) 1 ((⟨x0⟩ : St58).Oper_.I_), lsv (encI .u8) 1 ((⟨x0⟩ : St58).Oper_.F_), .int .i64 ((⟨x0⟩ : St58).Oper_.W_), .int .i64 ((⟨x0⟩ : St58).Oper_.C_)]] []), (.int .u8 102, .fn (.func 39) [.agg [lsv (encI .u8) 1 ((⟨x0⟩ : St58).Oper_.I_), lsv (encI .u8) 1 ((⟨x0⟩ : St58).Oper_.F_), .int .i64 ((⟨x0⟩ : St58).Oper_.W_), .int .i64 ((⟨x0⟩ : St58).Oper_.C_)]] []), (.int .u8 116, .fn (.func 40) [.agg [lsv (encI .u8) 1 ((⟨x0⟩ : St58).Oper_.I_), lsv (encI .u8) 1 ((⟨x0⟩ : St58).Oper_.F_), .int .i64 ((⟨x0⟩ : St58).Oper_.W_), .int .i64 ((⟨x0⟩ : St58).Oper_.C_)]] []), (.int .u8 99, .fn (.func 41) [.agg [lsv (encI .u8) 1 ((⟨x0⟩ : St58).Oper_.I_), lsv (encI .u8) 1 ((⟨x0⟩ : St58).Oper_.F_), .int .i64 ((⟨x0⟩ : St58).Oper_.W_), .int .i64 ((⟨x0⟩ : St58).Oper_.C_)]] []), (.int .u8 101, .fn (.func 41) [.agg [lsv (encI .u8) 1 ((⟨x0⟩ : St58).Oper_.I_), lsv (encI .u8) 1 ((⟨x0⟩ : St58).Oper_.F_), .int .i64 ((⟨x0⟩ : St58).Oper_.W_), .int .i64 ((⟨x0⟩ : St58).Oper_.C_)]] [])]]) (by kernel_rfl) ?_
                  refine RJ.end (by kernel_rfl) ?_
                  refine PJ.next ?_
                  refine K.condF (by kernel_rfl) ?_
                  refine K.skip (by kernel_rfl) ?_
                  refine PJ.next ?_
                  refine K.seq (by kernel_rfl) ?_
                  refine K.region (by kernel_rfl) ?_
                  refine RJ.seg 1 [4, 5, 21] (L2 := [(4, .nl), (5, .bool false), (21, .fn (.func 41) [.agg [lsv (encI .u8) 1 ((⟨x0⟩ : St58).Oper_.I_), lsv (encI .u8) 1 ((⟨x0⟩ : St58).Oper_.F_), .int .i64 ((⟨x0⟩ : St58).Oper_.W_), .int .i64 ((⟨x0⟩ : St58).Oper_.C_)]] [])]) (H2 := [.box [lsv (encI .u8) 1 x0.I_, lsv (encI .u8) 1 x0.F_, .int .i64 x0.W_, .int .i64 x0.C_], .map [(.int .u8 110, .fn (.func 35) [.agg [lsv (encI .u8) 1 ((⟨x0⟩ : St58).Oper_.I_), lsv (encI .u8) 1 ((⟨x0⟩ : St58).Oper_.F_), .int .i64 ((⟨x0⟩ : St58).Oper_.W_), .int .i64 ((⟨x0⟩ : St58).Oper_.C_)]] []), (.int .u8 105, .fn (.func 36) [.agg [lsv (encI .u8) 1 ((⟨x0⟩ : St58).Oper_.I_), lsv (encI .u8) 1 ((⟨x0⟩ : St58).Oper_.F_), .int .i64 ((⟨x0⟩ : St58).Oper_.W_), .int .i64 ((⟨x0⟩ : St58).Oper_.C_)]] []), (.int .u8 118, .fn (.func 37) [.agg [lsv (encI .u8) 1 ((⟨x0⟩ : St58).Oper_.I_), lsv (encI .u8) 1 ((⟨x0⟩ : St58).Oper_.F_), .int .i64 ((⟨x0⟩ : St58).Oper_.W_), .int .i64 ((⟨x0⟩ : St58).Oper_.C_)]] []), (.int .u8 119, .fn (.func 38) [.agg [lsv (encI .u8) 1 ((⟨x0⟩ : St58).Oper_.I_), lsv (encI .u8) 1 ((⟨x0⟩ : St58).Oper_.F_), .int .i64 ((⟨x0⟩ : St58).Oper_.W_), .int .i64 ((⟨x0⟩ : St58).Oper_.C_)]] []), (.int .u8 102, .fn (.func 39) [.agg [lsv (encI .u8) 1 ((⟨x0⟩ : St58).Oper_.I_), lsv (encI .u8) 1 ((⟨x0⟩ : St58).Oper_.F_), .int .i64 ((⟨x0⟩ : St58).Oper_.W_), .int .i64 ((⟨x0⟩ : St58).Oper_.C_)]] []), (.int .u8 116, .fn (.func 40) [.agg [lsv (encI .u8) 1 ((⟨x0⟩ : St58).Oper_.I_), lsv (encI .u8) 1 ((⟨x0⟩ : St58).Oper_.F_), .int .i64 ((⟨x0⟩ : St58).Oper_.W_), .int .i64 ((⟨x0⟩ : St58).Oper_.C_)]] []), (.int .u8 99, .fn (.func 41) [.agg [lsv (encI .u8) 1 ((⟨x0⟩ : St58).Oper_.I_), lsv (encI .u8) 1 ((⟨x0⟩ : St58).Oper_.F_), .int .i64 ((⟨x0⟩ : St58).Oper_.W_), .int .i64 ((⟨x0⟩ : St58).Oper_.C_)]] []), (.int .u8 101, .fn (.func 41) [.agg [lsv (encI .u8) 1 ((⟨x0⟩ : St58).Oper_.I_), lsv (encI .u8) 1 ((⟨x0⟩ : St58).Oper_.F_), .int .i64 ((⟨x0⟩ : St58).Oper_.W_), .int .i64 ((⟨x0⟩ : St58).Oper_.C_)]] [])]]) (by kernel_rfl) ?_
                  obtain ⟨y56, hy57, h58⟩ := bindS h53
                  refine RJ.call0 (d := (some 22)) (f := 41) (args := [.agg [lsv (encI .u8) 1 ((⟨x0⟩ : St58).Oper_.I_), lsv (encI .u8) 1 ((⟨x0⟩ : St58).Oper_.F_), .int .i64 ((⟨x0⟩ : St58).Oper_.W_), .int .i64 ((⟨x0⟩ : St58).Oper_.C_)]]) (v := .tup [lsv (encI .u8) 1 y56.1, .bool y56.2]) (tr2 := []) (by kernel_rfl) (by kernel_rfl) (.cons (Le.refl _) .nil) (oper_asked__power_ok hy57) (by kernel_rfl) ?_
                  refine RJ.seg 4 [4, 5] (L2 := [(4, lsv (encI .u8) 1 y56.1), (5, .bool y56.2)]) (H2 := [.box [lsv (encI .u8) 1 x0.I_, lsv (encI .u8) 1 x0.F_, .int .i64 x0.W_, .int .i64 x0.C_], .map [(.int .u8 110, .fn (.func 35) [.agg [lsv (encI .u8) 1 ((⟨x0⟩ : St58).Oper_.I_), lsv (encI .u8) 1 ((⟨x0⟩ : St58).Oper_.F_), .int .i64 ((⟨x0⟩ : St58).Oper_.W_), .int .i64 ((⟨x0⟩ : St58).Oper_.C_)]] []), (.int .u8 105, .fn (.func 36) [.agg [lsv (encI .u8) 1 ((⟨x0⟩ : St58).Oper_.I_), lsv (encI .u8) 1 ((⟨x0⟩ : St58).Oper_.F_), .int .i64 ((⟨x0⟩ : St58).Oper_.W_), .int .i64 ((⟨x0⟩ : St58).Oper_.C_)]] []), (.int .u8 118, .fn (.func 37) [.agg [lsv (encI .u8) 1 ((⟨x0⟩ : St58).Oper_.I_), lsv (encI .u8) 1 ((⟨x0⟩ : St58).Oper_.F_), .int .i64 ((⟨x0⟩ : St58).Oper_.W_), .int .i64 ((⟨x0⟩ : St58).Oper_.C_)]] []), (.int .u8 119, .fn (.func 38) [.agg [lsv (encI .u8) 1 ((⟨x0⟩ : St58).Oper_.I_), lsv (encI .u8) 1 ((⟨x0⟩ : St58).Oper_.F_), .int .i64 ((⟨x0⟩ : St58).Oper_.W_), .int .i64 ((⟨x0⟩ : St58).Oper_.C_)]] []), (.int .u8 102, .fn (.func 39) [.agg [lsv (encI .u8) 1 ((⟨x0⟩ : St58).Oper_.I_), lsv (encI .u8) 1 ((⟨x0⟩ : St58).Oper_.F_), .int .i64 ((⟨x0⟩ : St58).Oper_.W_), .int .i64 ((⟨x0⟩ : St58).Oper_.C_)]] []), (.int .u8 116, .fn (.func 40) [.agg [lsv (encI .u8) 1 ((⟨x0⟩ : St58).Oper_.I_), lsv (encI .u8) 1 ((⟨x0⟩ : St58).Oper_.F_), .int .i64 ((⟨x0⟩ : St58).Oper_.W_), .int .i64 ((⟨x0⟩ : St58).Oper_.C_)]] []), (.int .u8 99, .fn (.func 41) [.agg [lsv (encI .u8) 1 ((⟨x0⟩ : St58).Oper_.I_), lsv (encI .u8) 1 ((⟨x0⟩ : St58).Oper_.F_), .int .i64 ((⟨x0⟩ : St58).Oper_.W_), .int .i64 ((⟨x0⟩ : St58).Oper_.C_)]] []), (.int .u8 101, .fn (.func 41) [.agg [lsv (encI .u8) 1 ((⟨x0⟩ : St58).Oper_.I_), lsv (encI .u8) 1 ((⟨x0⟩ : St58).Oper_.F_), .int .i64 ((⟨x0⟩ : St58).Oper_.W_), .int .i64 ((⟨x0⟩ : St58).Oper_.C_)]] [])]]) (by kernel_rfl) ?_
                  refine RJ.end (by kernel_rfl) ?_
                  refine PJ.next ?_
                  refine K.ret (by kernel_rfl) ?_
                  obtain rfl := Option.some.inj h58
                  exact K.ret0 (.inr rfl) hFn hFH hFD (by kernel_rfl) (by kernel_rfl) (by kernel_rfl)
              · have h46 := condT hb45 h40
                have hn48 := of_decide_eq_true hb45
                refine RJ.look (some 5) (d := some 16) (ef := ⟨.tup [.fn (.func 40) [.agg [lsv (encI .u8) 1 ((⟨x0⟩ : St58).Oper_.I_), lsv (encI .u8) 1 ((⟨x0⟩ : St58).Oper_.F_), .int .i64 ((⟨x0⟩ : St58).Oper_.W_), .int .i64 ((⟨x0⟩ : St58).Oper_.C_)]] [], .bool true], [1], []⟩) (c := hitC (.int .u8 x1) [(.int .u8 110, .fn (.func 35) [.agg [lsv (encI .u8) 1 ((⟨x0⟩ : St58).Oper_.I_), lsv (encI .u8) 1 ((⟨x0⟩ : St58).Oper_.F_), .int .i64 ((⟨x0⟩ : St58).Oper_.W_), .int .i64 ((⟨x0⟩ : St58).Oper_.C_)]] []), (.int .u8 105, .fn (.func 36) [.agg [lsv (encI .u8) 1 ((⟨x0⟩ : St58).Oper_.I_), lsv (encI .u8) 1 ((⟨x0⟩ : St58).Oper_.F_), .int .i64 ((⟨x0⟩ : St58).Oper_.W_), .int .i64 ((⟨x0⟩ : St58).Oper_.C_)]] []), (.int .u8 118, .fn (.func 37) [.agg [lsv (encI .u8) 1 ((⟨x0⟩ : St58).Oper_.I_), lsv (encI .u8) 1 ((⟨x0⟩ : St58).Oper_.F_), .int .i64 ((⟨x0⟩ : St58).Oper_.W_), .int .i64 ((⟨x0⟩ : St58).Oper_.C_)]] []), (.int .u8 119, .fn (.func 38) [.agg [lsv (encI .u8) 1 ((⟨x0⟩ : St58).Oper_.I_), lsv (encI .u8) 1 ((⟨x0⟩ : St58).Oper_.F_), .int .i64 ((⟨x0⟩ : St58).Oper_.W_), .int .i64 ((⟨x0⟩ : St58).Oper_.C_)]] []), (.int .u8 102, .fn (.func 39) [.agg [lsv (encI .u8) 1 ((⟨x0⟩ : St58).Oper_.I_), lsv (encI .u8) 1 ((⟨x0⟩ : St58).Oper_.F_), .int .i64 ((⟨x0⟩ : St58).Oper_.W_), .int .i64 ((⟨x0⟩ : St58).Oper_.C_)]] []), (.int .u8 116, .fn (.func 40) [.agg [lsv (encI .u8) 1 ((⟨x0⟩ : St58).Oper_.I_), lsv (encI .u8) 1 ((⟨x0⟩ : St58).Oper_.F_), .int .i64 ((⟨x0⟩ : St58).Oper_.W_), .int .i64 ((⟨x0⟩ : St58).Oper_.C_)]] []), (.int .u8 99, .fn (.func 41) [.agg [lsv (encI .u8) 1 ((⟨x0⟩ : St58).Oper_.I_), lsv (encI .u8) 1 ((⟨x0⟩ : St58).Oper_.F_), .int .i64 ((⟨x0⟩ : St58).Oper_.W_), .int .i64 ((⟨x0⟩ : St58).Oper_.C_)]] []), (.int .u8 101, .fn (.func 41) [.agg [lsv (encI .u8) 1 ((⟨x0⟩ : St58).Oper_.I_), lsv (encI .u8) 1 ((⟨x0⟩ : St58).Oper_.F_), .int .i64 ((⟨x0⟩ : St58).Oper_.W_), .int .i64 ((⟨x0⟩ : St58).Oper_.C_)]] [])] 5) (tr2 := []) (by kernel_rfl) (by simp [hitC, missC, sameB, sameE, hn13, hn20, hn27, hn34, hn41, hn48]) ?_
                refine RJ.seg 5 [4, 5, 6, 7] (L2 := [(4, .nl), (5, .bool false), (6, .fn (.func 40) [.agg [lsv (encI .u8) 1 ((⟨x0⟩ : St58).Oper_.I_), lsv (encI .u8) 1 ((⟨x0⟩ : St58).Oper_.F_), .int .i64 ((⟨x0⟩ : St58).Oper_.W_), .int .i64 ((⟨x0⟩ : St58).Oper_.C_)]] []), (7, .bool true)]) (H2 := [.box [lsv (encI .u8) 1 x0.I_, lsv (encI .u8) 1 x0.F_, .int .i64 x0.W_, .int .i64 x0.C_], .map [(.int .u8 110, .fn (.func 35) [.agg [lsv (encI .u8) 1 ((⟨x0⟩ : St58).Oper_.I_), lsv (encI .u8) 1 ((⟨x0⟩ : St58).Oper_.F_), .int .i64 ((⟨x0⟩ : St58).Oper_.W_), .int .i64 ((⟨x0⟩ : St58).Oper_.C_)]] []), (.int .u8 105, .fn (.func 36) [.agg [lsv (encI .u8) 1 ((⟨x0⟩ : St58).Oper_.I_), lsv (encI .u8) 1 ((⟨x0⟩ : St58).Oper_.F_), .int .i64 ((⟨x0⟩ : St58).Oper_.W_), .int .i64 ((⟨x0⟩ : St58).Oper_.C_)]] []), (.int .u8 118, .fn (.func 37) [.agg [lsv (encI .u8) 1 ((⟨x0⟩ : St58).Oper_.I_), lsv (encI .u8) 1 ((⟨x0⟩ : St58).Oper_.F_), .int .i64 ((⟨x0⟩ : St58).Oper_.W_), .int .i64 ((⟨x0⟩ : St58).Oper_.C_)]] []), (.int .u8 119, .fn (.func 38) [.agg [lsv (encI .u8) 1 ((⟨x0⟩ : St58).Oper_.I_), lsv (encI .u8) 1 ((⟨x0⟩ : St58).Oper_.F_), .int .i64 ((⟨x0⟩ : St58).Oper_.W_), .int .i64 ((⟨x0⟩ : St58).Oper_.C_)]] []), (.int .u8 102, .fn (.func 39) [.agg [lsv (encI .u8) 1 ((⟨x0⟩ : St58).Oper_.I_), lsv (encI .u8) 1 ((⟨x0⟩ : St58).Oper_.F_), .int .i64 ((⟨x0⟩ : St58).Oper_.W_), .int .i64 ((⟨x0⟩ : St58).Oper_.C_)]] []), (.int .u8 116, .fn (.func 40) [.agg [lsv (encI .u8) 1 ((⟨x0⟩ : St58).Oper_.I_), lsv (encI .u8) 1 ((⟨x0⟩ : St58).Oper_.F_), .int .i64 ((⟨x0⟩ : St58).Oper_.W_), .int .i64 ((⟨x0⟩ : St58).Oper_.C_)]] []), (.int .u8 99, .fn (.func 41) [.agg [lsv (encI .u8) 1 ((⟨x0⟩ : St58).Oper_.I_), lsv (encI .u8) 1 ((⟨x0⟩ : St58).Oper_.F_), .int .i64 ((⟨x0⟩ : St58).Oper_.W_), .int .i64 ((⟨x0⟩ : St58).Oper_.C_)]] []), (.int .u8 101, .fn (.func 41) [.agg [lsv (encI .u8) 1 ((⟨x0⟩ : St58).Oper_.I_), lsv (encI .u8) 1 ((⟨x0⟩ : St58).Oper_.F_), .int .i64 ((⟨x0⟩ : St58).Oper_.W_), .int .i64 ((⟨x0⟩ : St58).Oper_.C_)]] [])]]) (by kernel_rfl) ?_
                refine RJ.end (by kernel_rfl) ?_
                refine PJ.next ?_
                refine K.seq (by kernel_rfl) ?_
                refine K.seq (by kernel_rfl) ?_
                refine K.region (by kernel_rfl) ?_
                refine RJ.seg 2 [4, 5, 6, 20] (L2 := [(4, .nl), (5, .bool false), (6, .fn (.func 40) [.agg [lsv (encI .u8) 1 ((⟨x0⟩ : St58).Oper_.I_), lsv (encI .u8) 1 ((⟨x0⟩ : St58).Oper_.F_), .int .i64 ((⟨x0⟩ : St58).Oper_.W_), .int .i64 ((⟨x0⟩ : St58).Oper_.C_)]] []), (20, .bool false)]) (H2 := [.box [lsv (encI .u8) 1 x0.I_, lsv (encI .u8) 1 x0.F_, .int .i64 x0.W_, .int .i64 x0.C_], .map [(.int .u8 110, .fn (.func 35) [.agg [lsv (encI .u8) 1 ((⟨x0⟩ : St58).Oper_.I_), lsv (encI .u8) 1 ((⟨x0⟩ : St58).Oper_.F_), .int .i64 ((⟨x0⟩ : St58).Oper_.W_), .int .i64 ((⟨x0⟩ : St58).Oper_.C_)]] []), (.int .u8 105, .fn (.func 36) [.agg [lsv (encI .u8) 1 ((⟨x0⟩ : St58).Oper_.I_), lsv (encI .u8) 1 ((⟨x0⟩ : St58).Oper_.F_), .int .i64 ((⟨x0⟩ : St58).Oper_.W_), .int .i64 ((⟨x0⟩ : St58).Oper_.C_)]] []), (.int .u8 118, .fn (.func 37) [.agg [lsv (encI .u8) 1 ((⟨x0⟩ : St58).Oper_.I_), lsv (encI .u8) 1 ((⟨x0⟩ : St58).Oper_.F_), .int .i64 ((⟨x0⟩ : St58).Oper_.W_), .int .i64 ((⟨x0⟩ : St58).Oper_.C_)]] []), (.int .u8 119, .fn (.func 38) [.agg [lsv (encI .u8) 1 ((⟨x0⟩ : St58).Oper_.I_), lsv (encI .u8) 1 ((⟨x0⟩ : St58).Oper_.F_), .int .i64 ((⟨x0⟩ : St58).Oper_.W_), .int .i64 ((⟨x0⟩ : St58).Oper_.C_)]] []), (.int .u8 102, .fn (.func 39) [.agg [lsv (encI .u8) 1 ((⟨x0⟩ : St58).Oper_.I_), lsv (encI .u8) 1 ((⟨x0⟩ : St58).Oper_.F_), .int .i64 ((⟨x0⟩ : St58).Oper_.W_), .int .i64 ((⟨x0⟩ : St58).Oper_.C_)]] []), (.int .u8 116, .fn (.func 40) [.agg [lsv (encI .u8) 1 ((⟨x0⟩ : St58).Oper_.I_), lsv (encI .u8) 1 ((⟨x0⟩ : St58).Oper_.F_), .int .i64 ((⟨x0⟩ : St58).Oper_.W_), .int .i64 ((⟨x0⟩ : St58).Oper_.C_)]] []), (.int .u8 99, .fn (.func 41) [.agg [lsv (encI .u8) 1 ((⟨x0⟩ : St58).Oper_.I_), lsv (encI .u8) 1 ((⟨x0⟩ : St58).Oper_.F_), .int .i64 ((⟨x0⟩ : St58).Oper_.W_), .int .i64 ((⟨x0⟩ : St58).Oper_.C_)]] []), (.int .u8 101, .fn (.func 41) [.agg [lsv (encI .u8) 1 ((⟨x0⟩ : St58).Oper_.I_), lsv (encI .u8) 1 ((⟨x0⟩ : St58).Oper_.F_), .int .i64 ((⟨x0⟩ : St58).Oper_.W_), .int .i64 ((⟨x0⟩ : St58).Oper_.C_)]] [])]]) (by kernel_rfl) ?_
                refine RJ.end (by kernel_rfl) ?_
                refine PJ.next ?_
                refine K.condF (by kernel_rfl) ?_
                refine K.skip (by kernel_rfl) ?_
                refine PJ.next ?_
                refine K.seq (by kernel_rfl) ?_
                refine K.region (by kernel_rfl) ?_
                refine RJ.seg 1 [4, 5, 21] (L2 := [(4, .nl), (5, .bool false), (21, .fn (.func 40) [.agg [lsv (encI .u8) 1 ((⟨x0⟩ : St58).Oper_.I_), lsv (encI .u8) 1 ((⟨x0⟩ : St58).Oper_.F_), .int .i64 ((⟨x0⟩ : St58).Oper_.W_), .int .i64 ((⟨x0⟩ : St58).Oper_.C_)]] [])]) (H2 := [.box [lsv (encI .u8) 1 x0.I_, lsv (encI .u8) 1 x0.F_, .int .i64 x0.W_, .int .i64 x0.C_], .map [(.int .u8 110, .fn (.func 35) [.agg [lsv (encI .u8) 1 ((⟨x0⟩ : St58).Oper_.I_), lsv (encI .u8) 1 ((⟨x0⟩ : St58).Oper_.F_), .int .i64 ((⟨x0⟩ : St58).Oper_.W_), .int .i64 ((⟨x0⟩ : St58).Oper_.C_)]] []), (.int .u8 105, .fn (.func 36) [.agg [lsv (encI .u8) 1 ((⟨x0⟩ : St58).Oper_.I_), lsv (encI .u8) 1 ((⟨x0⟩ : St58).Oper_.F_), .int .i64 ((⟨x0⟩ : St58).Oper_.W_), .int .i64 ((⟨x0⟩ : St58).Oper_.C_)]] []), (.int .u8 118, .fn (.func 37) [.agg [lsv (encI .u8) 1 ((⟨x0⟩ : St58).Oper_.I_), lsv (encI .u8) 1 ((⟨x0⟩ : St58).Oper_.F_), .int .i64 ((⟨x0⟩ : St58).Oper_.W_), .int .i64 ((⟨x0⟩ : St58).Oper_.C_)]] []), (.int .u8 119, .fn (.func 38) [.agg [lsv (encI .u8) 1 ((⟨x0⟩ : St58).Oper_.I_), lsv (encI .u8) 1 ((⟨x0⟩ : St58).Oper_.F_), .int .i64 ((⟨x0⟩ : St58).Oper_.W_), .int .i64 ((⟨x0⟩ : St58).Oper_.C_)]] []), (.int .u8 102, .fn (.func 39) [.agg [lsv (encI .u8) 1 ((⟨x0⟩ : St58).Oper_.I_), lsv (encI .u8) 1 ((⟨x0⟩ : St58).Oper_.F_), .int .i64 ((⟨x0⟩ : St58).Oper_.W_), .int .i64 ((⟨x0⟩ : St58).Oper_.C_)]] []), (.int .u8 116, .fn (.func 40) [.agg [lsv (encI .u8) 1 ((⟨x0⟩ : St58).Oper_.I_), lsv (encI .u8) 1 ((⟨x0⟩ : St58).Oper_.F_), .int .i64 ((⟨x0⟩ : St58).Oper_.W_), .int .i64 ((⟨x0⟩ : St58).Oper_.C_)]] []), (.int .u8 99, .fn (.func 41) [.agg [lsv (encI .u8) 1 ((⟨x0⟩ : St58).Oper_.I_), lsv (encI .u8) 1 ((⟨x0⟩ : St58).Oper_.F_), .int .i64 ((⟨x0⟩ : St58).Oper_.W_), .int .i64 ((⟨x0⟩ : St58).Oper_.C_)]] []), (.int .u8 101, .fn (.func 41) [.agg [lsv (encI .u8) 1 ((⟨x0⟩ : St58).Oper_.I_), lsv (encI .u8) 1 ((⟨x0⟩ : St58).Oper_.F_), .int .i64 ((⟨x0⟩ : St58).Oper_.W_), .int .i64 ((⟨x0⟩ : St58).Oper_.C_)]] [])]]) (by kernel_rfl) ?_
                obtain ⟨y49, hy50, h51⟩ := bindS h46
                refine RJ.call0 (d := (some 22)) (f := 40) (args := [.agg [lsv (encI .u8) 1 ((⟨x0⟩ : St58).Oper_.I_), lsv (encI .u8) 1 ((⟨x0⟩ : St58).Oper_.F_), .int .i64 ((⟨x0⟩ : St58).Oper_.W_), .int .i64 ((⟨x0⟩ : St58).Oper_.C_)]]) (v := .tup [lsv (encI .u8) 1 y49.1, .bool y49.2]) (tr2 := []) (by kernel_rfl) (by kernel_rfl) (.cons (Le.refl _) .nil) (oper_asked__cut_ok hy50) (by kernel_rfl) ?_
                refine RJ.seg 4 [4, 5] (L2 := [(4, lsv (encI .u8) 1 y49.1), (5, .bool y49.2)]) (H2 := [.box [lsv (encI .u8) 1 x0.I_, lsv (encI .u8) 1 x0.F_, .int .i64 x0.W_, .int .i64 x0.C_], .map [(.int .u8 110, .fn (.func 35) [.agg [lsv (encI .u8) 1 ((⟨x0⟩ : St58).Oper_.I_), lsv (encI .u8) 1 ((⟨x0⟩ : St58).Oper_.F_), .int .i64 ((⟨x0⟩ : St58).Oper_.W_), .int .i64 ((⟨x0⟩ : St58).Oper_.C_)]] []), (.int .u8 105, .fn (.func 36) [.agg [lsv (encI .u8) 1 ((⟨x0⟩ : St58).Oper_.I_), lsv (encI .u8) 1 ((⟨x0⟩ : St58).Oper_.F_), .int .i64 ((⟨x0⟩ : St58).Oper_.W_), .int .i64 ((⟨x0⟩ : St58).Oper_.C_)]] []), (.int .u8 118, .fn (.func 37) [.agg [lsv (encI .u8) 1 ((⟨x0⟩ : St58).Oper_.I_), lsv (encI .u8) 1 ((⟨x0⟩ : St58).Oper_.F_), .int .i64 ((⟨x0⟩ : St58).Oper_.W_), .int .i64 ((⟨x0⟩ : St58).Oper_.C_)]] []), (.int .u8 119, .fn (.func 38) [.agg [lsv (encI .u8) 1 ((⟨x0⟩ : St58).Oper_.I_), lsv (encI .u8) 1 ((⟨x0⟩ : St58).Oper_.F_), .int .i64 ((⟨x0⟩ : St58).Oper_.W_), .int .i64 ((⟨x0⟩ : St58).Oper_.C_)]] []), (.int .u8 102, .fn (.func 39) [.agg [lsv (encI .u8) 1 ((⟨x0⟩ : St58).Oper_.I_), lsv (encI .u8) 1 ((⟨x0⟩ : St58).Oper_.F_), .int .i64 ((⟨x0⟩ : St58).Oper_.W_), .int .i64 ((⟨x0⟩ : St58).Oper_.C_)]] []), (.int .u8 116, .fn (.func 40) [.agg [lsv (encI .u8) 1 ((⟨x0⟩ : St58).Oper_.I_), lsv (encI .u8) 1 ((⟨x0⟩ : St58).Oper_.F_), .int .i64 ((⟨x0⟩ : St58).Oper_.W_), .int .i64 ((⟨x0⟩ : St58).Oper_.C_)]] []), (.int .u8 99, .fn (.func 41) [.agg [lsv (encI .u8) 1 ((⟨x0⟩ : St58).Oper_.I_), lsv (encI .u8) 1 ((⟨x0⟩ : St58).Oper_.F_), .int .i64 ((⟨x0⟩ : St58).Oper_.W_), .int .i64 ((⟨x0⟩ : St58).Oper_.C_)]] []), (.int .u8 101, .fn (.func 41) [.agg [lsv (encI .u8) 1 ((⟨x0⟩ : St58).Oper_.I_), lsv (encI .u8) 1 ((⟨x0⟩ : St58).Oper_.F_), .int .i64 ((⟨x0⟩ : St58).Oper_.W_), .int .i64 ((⟨x0⟩ : St58).Oper_.C_)]] [])]]) (by kernel_rfl) ?_
                refine RJ.end (by kernel_rfl) ?_
                refine PJ.next ?_
                refine K.ret (by kernel_rfl) ?_
                obtain rfl := Option.some.inj h51
                exact K.ret0 (.inr rfl) hFn hFH hFD (by kernel_rfl) (by kernel_rfl) (by kernel_rfl)
            · have h39 := condT hb38 h33
              have hn41 := of_decide_eq_true hb38
              refine RJ.look (some 4) (d := some 16) (ef := ⟨.tup [.fn (.func 39) [.agg [lsv (encI .u8) 1 ((⟨x0⟩ : St58).Oper_.I_), lsv (encI .u8) 1 ((⟨x0⟩ : St58).Oper_.F_), .int .i64 ((⟨x0⟩ : St58).Oper_.W_), .int .i64 ((⟨x0⟩ : St58).Oper_.C_)]] [], .bool true], [1], []⟩) (c := hitC (.int .u8 x1) [(.int .u8 110, .fn (.func 35) [.agg [lsv (encI .u8) 1 ((⟨x0⟩ : St58).Oper_.I_), lsv (encI .u8) 1 ((⟨x0⟩ : St58).Oper_.F_), .int .i64 ((⟨x0⟩ : St58).Oper_.W_), .int .i64 ((⟨x0⟩ : St58).Oper_.C_)]] []), (.int .u8 105, .fn (.func 36) [.agg [lsv (encI .u8) 1 ((⟨x0⟩ : St58).Oper_.I_), lsv (encI .u8) 1 ((⟨x0⟩ : St58).Oper_.F_), .int .i64 ((⟨x0⟩ : St58).Oper_.W_), .int .i64 ((⟨x0⟩ : St58).Oper_.C_)]] []), (.int .u8 118, .fn (.func 37) [.agg [lsv (encI .u8) 1 ((⟨x0⟩ : St58).Oper_.I_), lsv (encI .u8) 1 ((⟨x0⟩ : St58).Oper_.F_), .int .i64 ((⟨x0⟩ : St58).Oper_.W_), .int .i64 ((⟨x0⟩ : St58).Oper_.C_)]] []), (.int .u8 119, .fn (.func 38) [.agg [lsv (encI .u8) 1 ((⟨x0⟩ : St58).Oper_.I_), lsv (encI .u8) 1 ((⟨x0⟩ : St58).Oper_.F_), .int .i64 ((⟨x0⟩ : St58).Oper_.W_), .int .i64 ((⟨x0⟩ : St58).Oper_.C_)]] []), (.int .u8 102, .fn (.func 39) [.agg [lsv (encI .u8) 1 ((⟨x0⟩ : St58).Oper_.I_), lsv (encI .u8) 1 ((⟨x0⟩ : St58).Oper_.F_), .int .i64 ((⟨x0⟩ : St58).Oper_.W_), .int .i64 ((⟨x0⟩ : St58).Oper_.C_)]] []), (.int .u8 116, .fn (.func 40) [.agg [lsv (encI .u8) 1 ((⟨x0⟩ : St58).Oper_.I_), lsv (encI .u8) 1 ((⟨x0⟩ : St58).Oper_.F_), .int .i64 ((⟨x0⟩ : St58).Oper_.W_), .int .i64 ((⟨x0⟩ : St58).Oper_.C_)]] []), (.int .u8 99, .fn (.func 41) [.agg [lsv (encI .u8) 1 ((⟨x0⟩ : St58).Oper_.I_), lsv (encI .u8) 1 ((⟨x0⟩ : St58).Oper_.F_), .int .i64 ((⟨x0⟩ : St58).Oper_.W_), .int .i64 ((⟨x0⟩ : St58).Oper_.C_)]] []), (.int .u8 101, .fn (.func 41) [.agg [lsv (encI .u8) 1 ((⟨x0⟩ : St58).Oper_.I_), lsv (encI .u8) 1 ((⟨x0⟩ : St58).Oper_.F_), .int .i64 ((⟨x0⟩ : St58).Oper_.W_), .int .i64 ((⟨x0⟩ : St58).Oper_.C_)]] [])] 4) (tr2 := []) (by kernel_rfl) (by simp [hitC, missC, sameB, sameE, hn13, hn20, hn27, hn34, hn41]) ?_
              refine RJ.seg 5 [4, 5, 6, 7] (L2 := [(4, .nl), (5, .bool false), (6, .fn (.func 39) [.agg [lsv (encI .u8) 1 ((⟨x0⟩ : St58).Oper_.I_), lsv (encI .u8) 1 ((⟨x0⟩ : St58).Oper_.F_), .int .i64 ((⟨x0⟩ : St58).Oper_.W_), .int .i64 ((⟨x0⟩ : St58).Oper_.C_)]] []), (7, .bool true)]) (H2 := [.box [lsv (encI .u8) 1 x0.I_, lsv (encI .u8) 1 x0.F_, .int .i64 x0.W_, .int .i64 x0.C_], .map [(.int .u8 110, .fn (.func 35) [.agg [lsv (encI .u8) 1 ((⟨x0⟩ : St58).Oper_.I_), lsv (encI .u8) 1 ((⟨x0⟩ : St58).Oper_.F_), .int .i64 ((⟨x0⟩ : St58).Oper_.W_), .int .i64 ((⟨x0⟩ : St58).Oper_.C_)]] []), (.int .u8 105, .fn (.func 36) [.agg [lsv (encI .u8) 1 ((⟨x0⟩ : St58).Oper_.I_), lsv (encI .u8) 1 ((⟨x0⟩ : St58).Oper_.F_), .int .i64 ((⟨x0⟩ : St58).Oper_.W_), .int .i64 ((⟨x0⟩ : St58).Oper_.C_)]] []), (.int .u8 118, .fn (.func 37) [.agg [lsv (encI .u8) 1 ((⟨x0⟩ : St58).Oper_.I_), lsv (encI .u8) 1 ((⟨x0⟩ : St58).Oper_.F_), .int .i64 ((⟨x0⟩ : St58).Oper_.W_), .int .i64 ((⟨x0⟩ : St58).Oper_.C_)]] []), (.int .u8 119, .fn (.func 38) [.agg [lsv (encI .u8) 1 ((⟨x0⟩ : St58).Oper_.I_), lsv (encI .u8) 1 ((⟨x0⟩ : St58).Oper_.F_), .int .i64 ((⟨x0⟩ : St58).Oper_.W_), .int .i64 ((⟨x0⟩ : St58).Oper_.C_)]] []), (.int .u8 102, .fn (.func 39) [.agg [lsv (encI .u8) 1 ((⟨x0⟩ : St58).Oper_.I_), lsv (encI .u8) 1 ((⟨x0⟩ : St58).Oper_.F_), .int .i64 ((⟨x0⟩ : St58).Oper_.W_), .int .i64 ((⟨x0⟩ : St58).Oper_.C_)]] []), (.int .u8 116, .fn (.func 40) [.agg [lsv (encI .u8) 1 ((⟨x0⟩ : St58).Oper_.I_), lsv (encI .u8) 1 ((⟨x0⟩ : St58).Oper_.F_), .int .i64 ((⟨x0⟩ : St58).Oper_.W_), .int .i64 ((⟨x0⟩ : St58).Oper_.C_)]] []), (.int .u8 99, .fn (.func 41) [.agg [lsv (encI .u8) 1 ((⟨x0⟩ : St58).Oper_.I_), lsv (encI .u8) 1 ((⟨x0⟩ : St58).Oper_.F_), .int .i64 ((⟨x0⟩ : St58).Oper_.W_), .int .i64 ((⟨x0⟩ : St58).Oper_.C_)]] []), (.int .u8 101, .fn (.func 41) [.agg [lsv (encI .u8) 1 ((⟨x0⟩ : St58).Oper_.I_), lsv (encI .u8) 1 ((⟨x0⟩ : St58).Oper_.F_), .int .i64 ((⟨x0⟩ : St58).Oper_.W_), .int .i64 ((⟨x0⟩ : St58).Oper_.C_)]] [])]]) (by kernel_rfl) ?_
              refine RJ.end (by kernel_rfl) ?_
              refine PJ.next ?_
              refine K.seq (by kernel_rfl) ?_
              refine K.seq (by kernel_rfl) ?_
              refine K.region (by kernel_rfl) ?_
              refine RJ.seg 2 [4, 5, 6, 20] (L2 := [(4, .nl), (5, .bool false), (6, .fn (.func 39) [.agg [lsv (encI .u8) 1 ((⟨x0⟩ : St58).Oper_.I_), lsv (encI .u8) 1 ((⟨x0⟩ : St58).Oper_.F_), .int .i64 ((⟨x0⟩ : St58).Oper_.W_), .int .i64 ((⟨x0⟩ : St58).Oper_.C_)]] []), (20, .bool false)]) (H2 := [.box [lsv (encI .u8) 1 x0.I_, lsv (encI .u8) 1 x0.F_, .int .i64 x0.W_, .int .i64 x0.C_], .map [(.int .u8 110, .fn (.func 35) [.agg [lsv (encI .u8) 1 ((⟨x0⟩ : St58).Oper_.I_), lsv (encI .u8) 1 ((⟨x0⟩ : St58).Oper_.F_), .int .i64 ((⟨x0⟩ : St58).Oper_.W_), .int .i64 ((⟨x0⟩ : St58).Oper_.C_)]] []), (.int .u8 105, .fn (.func 36) [.agg [lsv (encI .u8) 1 ((⟨x0⟩ : St58).Oper_.I_), lsv (encI .u8) 1 ((⟨x0⟩ : St58).Oper_.F_), .int .i64 ((⟨x0⟩ : St58).Oper_.W_), .int .i64 ((⟨x0⟩ : St58).Oper_.C_)]] []), (.int .u8 118, .fn (.func 37) [.agg [lsv (encI .u8) 1 ((⟨x0⟩ : St58).Oper_.I_), lsv (encI .u8) 1 ((⟨x0⟩ : St58).Oper_.F_), .int .i64 ((⟨x0⟩ : St58).Oper_.W_), .int .i64 ((⟨x0⟩ : St58).Oper_.C_)]] []), (.int .u8 119, .fn (.func 38) [.agg [lsv (encI .u8) 1 ((⟨x0⟩ : St58).Oper_.I_), lsv (encI .u8) 1 ((⟨x0⟩ : St58).Oper_.F_), .int .i64 ((⟨x0⟩ : St58).Oper_.W_), .int .i64 ((⟨x0⟩ : St58).Oper_.C_)]] []), (.int .u8 102, .fn (.func 39) [.agg [lsv (encI .u8) 1 ((⟨x0⟩ : St58).Oper_.I_), lsv (encI .u8) 1 ((⟨x0⟩ : St58).Oper_.F_), .int .i64 ((⟨x0⟩ : St58).Oper_.W_), .int .i64 ((⟨x0⟩ : St58).Oper_.C_)]] []), (.int .u8 116, .fn (.func 40) [.agg [lsv (encI .u8) 1 ((⟨x0⟩ : St58).Oper_.I_), lsv (encI .u8) 1 ((⟨x0⟩ : St58).Oper_.F_), .int .i64 ((⟨x0⟩ : St58).Oper_.W_), .int .i64 ((⟨x0⟩ : St58).Oper_.C_)]] []), (.int .u8 99, .fn (.func 41) [.agg [lsv (encI .u8) 1 ((⟨x0⟩ : St58).Oper_.I_), lsv (encI .u8) 1 ((⟨x0⟩ : St58).Oper_.F_), .int .i64 ((⟨x0⟩ : St58).Oper_.W_), .int .i64 ((⟨x0⟩ : St58).Oper_.C_)]] []), (.int .u8 101, .fn (.func 41) [.agg [lsv (encI .u8) 1 ((⟨x0⟩ : St58).Oper_.I_), lsv (encI .u8) 1 ((⟨x0⟩ : St58).Oper_.F_), .int .i64 ((⟨x0⟩ : St58).Oper_.W_), .int .i64 ((⟨x0⟩ : St58).Oper_.C_)]] [])]]) (by kernel_rfl) ?_
              refine RJ.end (by kernel_rfl) ?_
              refine PJ.next ?_
              refine K.condF (by kernel_rfl) ?_
              refine K.skip (by kernel_rfl) ?_
              refine PJ.next ?_
              refine K.seq (by kernel_rfl) ?_
              refine K.region (by kernel_rfl) ?_
              refine RJ.seg 1 [4, 5, 21] (L2 := [(4, .nl), (5, .bool false), (21, .fn (.func 39) [.agg [lsv (encI .u8) 1 ((⟨x0⟩ : St58).Oper_.I_), lsv (encI .u8) 1 ((⟨x0⟩ : St58).Oper_.F_), .int .i64 ((⟨x0⟩ : St58).Oper_.W_), .int .i64 ((⟨x0⟩ : St58).Oper_.C_)]] [])]) (H2 := [.box [lsv (encI .u8) 1 x0.I_, lsv (encI .u8) 1 x0.F_, .int .i64 x0.W_, .int .i64 x0.C_], .map [(.int .u8 110, .fn (.func 35) [.agg [lsv (encI .u8) 1 ((⟨x0⟩ : St58).Oper_.I_), lsv (encI .u8) 1 ((⟨x0⟩ : St58).Oper_.F_), .int .i64 ((⟨x0⟩ : St58).Oper_.W_), .int .i64 ((⟨x0⟩ : St58).Oper_.C_)]] []), (.int .u8 105, .fn (.func 36) [.agg [lsv (encI .u8) 1 ((⟨x0⟩ : St58).Oper_.I_), lsv (encI .u8) 1 ((⟨x0⟩ : St58).Oper_.F_), .int .i64 ((⟨x0⟩ : St58).Oper_.W_), .int .i64 ((⟨x0⟩ : St58).Oper_.C_)]] []), (.int .u8 118, .fn (.func 37) [.agg [lsv (encI .u8) 1 ((⟨x0⟩ : St58).Oper_.I_), lsv (encI .u8) 1 ((⟨x0⟩ : St58).Oper_.F_), .int .i64 ((⟨x0⟩ : St58).Oper_.W_), .int .i64 ((⟨x0⟩ : St58).Oper_.C_)]] []), (.int .u8 119, .fn (.func 38) [.agg [lsv (encI .u8) 1 ((⟨x0⟩ : St58).Oper_.I_), lsv (encI .u8) 1 ((⟨x0⟩ : St58).Oper_.F_), .int .i64 ((⟨x0⟩ : St58).Oper_.W_), .int .i64 ((⟨x0⟩ : St58).Oper_.C_)]] []), (.int .u8 102, .fn (.func 39) [.agg [lsv (encI .u8) 1 ((⟨x0⟩ : St58).Oper_.I_), lsv (encI .u8) 1 ((⟨x0⟩ : St58).Oper_.F_), .int .i64 ((⟨x0⟩ : St58).Oper_.W_), .int .i64 ((⟨x0⟩ : St58).Oper_.C_)]] []), (.int .u8 116, .fn (.func 40) [.agg [lsv (encI .u8) 1 ((⟨x0⟩ : St58).Oper_.I_), lsv (encI .u8) 1 ((⟨x0⟩ : St58).Oper_.F_), .int .i64 ((⟨x0⟩ : St58).Oper_.W_), .int .i64 ((⟨x0⟩ : St58).Oper_.C_)]] []), (.int .u8 99, .fn (.func 41) [.agg [lsv (encI .u8) 1 ((⟨x0⟩ : St58).Oper_.I_), lsv (encI .u8) 1 ((⟨x0⟩ : St58).Oper_.F_), .int .i64 ((⟨x0⟩ : St58).Oper_.W_), .int .i64 ((⟨x0⟩ : St58).Oper_.C_)]] []), (.int .u8 101, .fn (.func 41) [.agg [lsv (encI .u8) 1 ((⟨x0⟩ : St58).Oper_.I_), lsv (encI .u8) 1 ((⟨x0⟩ : St58).Oper_.F_), .int .i64 ((⟨x0⟩ : St58).Oper_.W_), .int .i64 ((⟨x0⟩ : St58).Oper_.C_)]] [])]]) (by kernel_rfl) ?_
              obtain ⟨y42, hy43, h44⟩ := bindS h39
              refine RJ.call0 (d := (some 22)) (f := 39) (args := [.agg [lsv (encI .u8) 1 ((⟨x0⟩ : St58).Oper_.I_), lsv (encI .u8) 1 ((⟨x0⟩ : St58).Oper_.F_), .int .i64 ((⟨x0⟩ : St58).Oper_.W_), .int .i64 ((⟨x0⟩ : St58).Oper_.C_)]]) (v := .tup [lsv (encI .u8) 1 y42.1, .bool y42.2]) (tr2 := []) (by kernel_rfl) (by kernel_rfl) (.cons (Le.refl _) .nil) (oper_asked__part_ok hy43) (by kernel_rfl) ?_
              refine RJ.seg 4 [4, 5] (L2 := [(4, lsv (encI .u8) 1 y42.1), (5, .bool y42.2)]) (H2 := [.box [lsv (encI .u8) 1 x0.I_, lsv (encI .u8) 1 x0.F_, .int .i64 x0.W_, .int .i64 x0.C_], .map [(.int .u8 110, .fn (.func 35) [.agg [lsv (encI .u8) 1 ((⟨x0⟩ : St58).Oper_.I_), lsv (encI .u8) 1 ((⟨x0⟩ : St58).Oper_.F_), .int .i64 ((⟨x0⟩ : St58).Oper_.W_), .int .i64 ((⟨x0⟩ : St58).Oper_.C_)]] []), (.int .u8 105, .fn (.func 36) [.agg [lsv (encI .u8) 1 ((⟨x0⟩ : St58).Oper_.I_), lsv (encI .u8) 1 ((⟨x0⟩ : St58).Oper_.F_), .int .i64 ((⟨x0⟩ : St58).Oper_.W_), .int .i64 ((⟨x0⟩ : St58).Oper_.C_)]] []), (.int .u8 118, .fn (.func 37) [.agg [lsv (encI .u8) 1 ((⟨x0⟩ : St58).Oper_.I_), lsv (encI .u8) 1 ((⟨x0⟩ : St58).Oper_.F_), .int .i64 ((⟨x0⟩ : St58).Oper_.W_), .int .i64 ((⟨x0⟩ : St58).Oper_.C_)]] []), (.int .u8 119, .fn (.func 38) [.agg [lsv (encI .u8) 1 ((⟨x0⟩ : St58).Oper_.I_), lsv (encI .u8) 1 ((⟨x0⟩ : St58).Oper_.F_), .int .i64 ((⟨x0⟩ : St58).Oper_.W_), .int .i64 ((⟨x0⟩ : St58).Oper_.C_)]] []), (.int .u8 102, .fn (.func 39) [.agg [lsv (encI .u8) 1 ((⟨x0⟩ : St58).Oper_.I_), lsv (encI .u8) 1 ((⟨x0⟩ : St58).Oper_.F_), .int .i64 ((⟨x0⟩ : St58).Oper_.W_), .int .i64 ((⟨x0⟩ : St58).Oper_.C_)]] []), (.int .u8 116, .fn (.func 40) [.agg [lsv (encI .u8) 1 ((⟨x0⟩ : St58).Oper_.I_), lsv (encI .u8) 1 ((⟨x0⟩ : St58).Oper_.F_), .int .i64 ((⟨x0⟩ : St58).Oper_.W_), .int .i64 ((⟨x0⟩ : St58).Oper_.C_)]] []), (.int .u8 99, .fn (.func 41) [.agg [lsv (encI .u8) 1 ((⟨x0⟩ : St58).Oper_.I_), lsv (encI .u8) 1 ((⟨x0⟩ : St58).Oper_.F_), .int .i64 ((⟨x0⟩ : St58).Oper_.W_), .int .i64 ((⟨x0⟩ : St58).Oper_.C_)]] []), (.int .u8 101, .fn (.func 41) [.agg [lsv (encI .u8) 1 ((⟨x0⟩ : St58).Oper_.I_), lsv (encI .u8) 1 ((⟨x0⟩ : St58).Oper_.F_), .int .i64 ((⟨x0⟩ : St58).Oper_.W_), .int .i64 ((⟨x0⟩ : St58).Oper_.C_)]] [])]]) (by kernel_rfl) ?_
              refine RJ.end (by kernel_rfl) ?_
              refine PJ.next ?_
              refine K.ret (by kernel_rfl) ?_
              obtain rfl := Option.some.inj h44
              exact K.ret0 (.inr rfl) hFn hFH hFD (by kernel_rfl) (by kernel_rfl) (by kernel_rfl)
          · have h32 := condT hb31 h26
            have hn34 := of_decide_eq_true hb31
            refine RJ.look (some 3) (d := some 16) (ef := ⟨.tup [.fn (.func 38) [.agg [lsv (encI .u8) 1 ((⟨x0⟩ : St58).Oper_.I_), lsv (encI .u8) 1 ((⟨x0⟩ : St58).Oper_.F_), .int .i64 ((⟨x0⟩ : St58).Oper_.W_), .int .i64 ((⟨x0⟩ : St58).Oper_.C_)]] [], .bool true], [1], []⟩) (c := hitC (.int .u8 x1) [(.int .u8 110, .fn (.func 35) [.agg [lsv (encI .u8) 1 ((⟨x0⟩ : St58).Oper_.I_), lsv (encI .u8) 1 ((⟨x0⟩ : St58).Oper_.F_), .int .i64 ((⟨x0⟩ : St58).Oper_.W_), .int .i64 ((⟨x0⟩ : St58).Oper_.C_)]] []), (.int .u8 105, .fn (.func 36) [.agg [lsv (encI .u8) 1 ((⟨x0⟩ : St58).Oper_.I_), lsv (encI .u8) 1 ((⟨x0⟩ : St58).Oper_.F_), .int .i64 ((⟨x0⟩ : St58).Oper_.W_), .int .i64 ((⟨x0⟩ : St58).Oper_.C_)]] []), (.int .u8 118, .fn (.func 37) [.agg [lsv (encI .u8) 1 ((⟨x0⟩ : St58).Oper_.I_), lsv (encI .u8) 1 ((⟨x0⟩ : St58).Oper_.F_), .int .i64 ((⟨x0⟩ : St58).Oper_.W_), .int .i64 ((⟨x0⟩ : St58).Oper_.C_)]] []), (.int .u8 119, .fn (.func 38) [.agg [lsv (encI .u8) 1 ((⟨x0⟩ : St58).Oper_.I_), lsv (encI .u8) 1 ((⟨x0⟩ : St58).Oper_.F_), .int .i64 ((⟨x0⟩ : St58).Oper_.W_), .int .i64 ((⟨x0⟩ : St58).Oper_.C_)]] []), (.int .u8 102, .fn (.func 39) [.agg [lsv (encI .u8) 1 ((⟨x0⟩ : St58).Oper_.I_), lsv (encI .u8) 1 ((⟨x0⟩ : St58).Oper_.F_), .int .i64 ((⟨x0⟩ : St58).Oper_.W_), .int .i64 ((⟨x0⟩ : St58).Oper_.C_)]] []), (.int .u8 116, .fn (.func 40) [.agg [lsv (encI .u8) 1 ((⟨x0⟩ : St58).Oper_.I_), lsv (encI .u8) 1 ((⟨x0⟩ : St58).Oper_.F_), .int .i64 ((⟨x0⟩ : St58).Oper_.W_), .int .i64 ((⟨x0⟩ : St58).Oper_.C_)]] []), (.int .u8 99, .fn (.func 41) [.agg [lsv (encI .u8) 1 ((⟨x0⟩ : St58).Oper_.I_), lsv (encI .u8) 1 ((⟨x0⟩ : St58).Oper_.F_), .int .i64 ((⟨x0⟩ : St58).Oper_.W_), .int .i64 ((⟨x0⟩ : St58).Oper_.C_)]] []), (.int .u8 101, .fn (.func 41) [.agg [lsv (encI .u8) 1 ((⟨x0⟩ : St58).Oper_.I_), lsv (encI .u8) 1 ((⟨x0⟩ : St58).Oper_.F_), .int .i64 ((⟨x0⟩ : St58).Oper_.W_), .int .i64 ((⟨x0⟩ : St58).Oper_.C_)]] [])] 3) (tr2 := []) (by kernel_rfl) (by simp [hitC, missC, sameB, sameE, hn13, hn20, hn27, hn34]) ?_
            refine RJ.seg 5 [4, 5, 6, 7] (L2 := [(4, .nl), (5, .bool false), (6, .fn (.func 38) [.agg [lsv (encI .u8) 1 ((⟨x0⟩ : St58).Oper_.I_), lsv (encI .u8) 1 ((⟨x0⟩ : St58).Oper_.F_), .int .i64 ((⟨x0⟩ : St58).Oper_.W_), .int .i64 ((⟨x0⟩ : St58).Oper_.C_)]] []), (7, .bool true)]) (H2 := [.box [lsv (encI .u8) 1 x0.I_, lsv (encI .u8) 1 x0.F_, .int .i64 x0.W_, .int .i64 x0.C_], .map [(.int .u8 110, .fn (.func 35) [.agg [lsv (encI .u8) 1 ((⟨x0⟩ : St58).Oper_.I_), lsv (encI .u8) 1 ((⟨x0⟩ : St58).Oper_.F_), .int .i64 ((⟨x0⟩ : St58).Oper_.W_), .int .i64 ((⟨x0⟩ : St58).Oper_.C_)]] []), (.int .u8 105, .fn (.func 36) [.agg [lsv (encI .u8) 1 ((⟨x0⟩ : St58).Oper_.I_), lsv (encI .u8) 1 ((⟨x0⟩ : St58).Oper_.F_), .int .i64 ((⟨x0⟩ : St58).Oper_.W_), .int .i64 ((⟨x0⟩ : St58).Oper_.C_)]] []), (.int .u8 118, .fn (.func 37) [.agg [lsv (encI .u8) 1 ((⟨x0⟩ : St58).Oper_.I_), lsv (encI .u8) 1 ((⟨x0⟩ : St58).Oper_.F_), .int .i64 ((⟨x0⟩ : St58).Oper_.W_), .int .i64 ((⟨x0⟩ : St58).Oper_.C_)]] []), (.int .u8 119, .fn (.func 38) [.agg [lsv (encI .u8) 1 ((⟨x0⟩ : St58).Oper_.I_), lsv (encI .u8) 1 ((⟨x0⟩ : St58).Oper_.F_), .int .i64 ((⟨x0⟩ : St58).Oper_.W_), .int .i64 ((⟨x0⟩ : St58).Oper_.C_)]] []), (.int .u8 102, .fn (.func 39) [.agg [lsv (encI .u8) 1 ((⟨x0⟩ : St58).Oper_.I_), lsv (encI .u8) 1 ((⟨x0⟩ : St58).Oper_.F_), .int .i64 ((⟨x0⟩ : St58).Oper_.W_), .int .i64 ((⟨x0⟩ : St58).Oper_.C_)]] []), (.int .u8 116, .fn (.func 40) [.agg [lsv (encI .u8) 1 ((⟨x0⟩ : St58).Oper_.I_), lsv (encI .u8) 1 ((⟨x0⟩ : St58).Oper_.F_), .int .i64 ((⟨x0⟩ : St58).Oper_.W_), .int .i64 ((⟨x0⟩ : St58).Oper_.C_)]] []), (.int .u8 99, .fn (.func 41) [.agg [lsv (encI .u8) 1 ((⟨x0⟩ : St58).Oper_.I_), lsv (encI .u8) 1 ((⟨x0⟩ : St58).Oper_.F_), .int .i64 ((⟨x0⟩ : St58).Oper_.W_), .int .i64 ((⟨x0⟩ : St58).Oper_.C_)]] []), (.int .u8 101, .fn (.func 41) [.agg [lsv (encI .u8) 1 ((⟨x0⟩ : St58).Oper_.I_), lsv (encI .u8) 1 ((⟨x0⟩ : St58).Oper_.F_), .int .i64 ((⟨x0⟩ : St58).Oper_.W_), .int .i64 ((⟨x0⟩ : St58).Oper_.C_)]] [])]]) (by kernel_rfl) ?_
            refine RJ.end (by kernel_rfl) ?_
            refine PJ.next ?_
            refine K.seq (by kernel_rfl) ?_
            refine K.seq (by kernel_rfl) ?_
            refine K.region (by kernel_rfl) ?_
            refine RJ.seg 2 [4, 5, 6, 20] (L2 := [(4, .nl), (5, .bool false), (6, .fn (.func 38) [.agg [lsv (encI .u8) 1 ((⟨x0⟩ : St58).Oper_.I_), lsv (encI .u8) 1 ((⟨x0⟩ : St58).Oper_.F_), .int .i64 ((⟨x0⟩ : St58).Oper_.W_), .int .i64 ((⟨x0⟩ : St58).Oper_.C_)]] []), (20, .bool false)]) (H2 := [.box [lsv (encI .u8) 1 x0.I_, lsv (encI .u8) 1 x0.F_, .int .i64 x0.W_, .int .i64 x0.C_], .map [(.int .u8 110, .fn (.func 35) [.agg [lsv (encI .u8) 1 ((⟨x0⟩ : St58).Oper_.I_), lsv (encI .u8) 1 ((⟨x0⟩ : St58).Oper_.F_), .int .i64 ((⟨x0⟩ : St58).Oper_.W_), .int .i64 ((⟨x0⟩ : St58).Oper_.C_)]] []), (.int .u8 105, .fn (.func 36) [.agg [lsv (encI .u8) 1 ((⟨x0⟩ : St58).Oper_.I_), lsv (encI .u8) 1 ((⟨x0⟩ : St58).Oper_.F_), .int .i64 ((⟨x0⟩ : St58).Oper_.W_), .int .i64 ((⟨x0⟩ : St58).Oper_.C_)]] []), (.int .u8 118, .fn (.func 37) [.agg [lsv (encI .u8) 1 ((⟨x0⟩ : St58).Oper_.I_), lsv (encI .u8) 1 ((⟨x0⟩ : St58).Oper_.F_), .int .i64 ((⟨x0⟩ : St58).Oper_.W_), .int .i64 ((⟨x0⟩ : St58).Oper_.C_)]] []), (.int .u8 119, .fn (.func 38) [.agg [lsv (encI .u8) 1 ((⟨x0⟩ : St58).Oper_.I_), lsv (encI .u8) 1 ((⟨x0⟩ : St58).Oper_.F_), .int .i64 ((⟨x0⟩ : St58).Oper_.W_), .int .i64 ((⟨x0⟩ : St58).Oper_.C_)]] []), (.int .u8 102, .fn (.func 39) [.agg [lsv (encI .u8) 1 ((⟨x0⟩ : St58).Oper_.I_), lsv (encI .u8) 1 ((⟨x0⟩ : St58).Oper_.F_), .int .i64 ((⟨x0⟩ : St58).Oper_.W_), .int .i64 ((⟨x0⟩ : St58).Oper_.C_)]] []), (.int .u8 116, .fn (.func 40) [.agg [lsv (encI .u8) 1 ((⟨x0⟩ : St58).Oper_.I_), lsv (encI .u8) 1 ((⟨x0⟩ : St58).Oper_.F_), .int .i64 ((⟨x0⟩ : St58).Oper_.W_), .int .i64 ((⟨x0⟩ : St58).Oper_.C_)]] []), (.int .u8 99, .fn (.func 41) [.agg [lsv (encI .u8) 1 ((⟨x0⟩ : St58).Oper_.I_), lsv (encI .u8) 1 ((⟨x0⟩ : St58).Oper_.F_), .int .i64 ((⟨x0⟩ : St58).Oper_.W_), .int .i64 ((⟨x0⟩ : St58).Oper_.C_)]] []), (.int .u8 101, .fn (.func 41) [.agg [lsv (encI .u8) 1 ((⟨x0⟩ : St58).Oper_.I_), lsv (encI .u8) 1 ((⟨x0⟩ : St58).Oper_.F_), .int .i64 ((⟨x0⟩ : St58).Oper_.W_), .int .i64 ((⟨x0⟩ : St58).Oper_.C_)]] [])]]) (by kernel_rfl) ?_
            refine RJ.end (by kernel_rfl) ?_
            refine PJ.next ?_
            refine K.condF (by kernel_rfl) ?_
            refine K.skip (by kernel_rfl) ?_
            refine PJ.next ?_
            refine K.seq (by kernel_rfl) ?_
            refine K.region (by kernel_rfl) ?_
            refine RJ.seg 1 [4, 5, 21] (L2 := [(4, .nl), (5, .bool false), (21, .fn (.func 38) [.agg [lsv (encI .u8) 1 ((⟨x0⟩ : St58).Oper_.I_), lsv (encI .u8) 1 ((⟨x0⟩ : St58).Oper_.F_), .int .i64 ((⟨x0⟩ : St58).Oper_.W_), .int .i64 ((⟨x0⟩ : St58).Oper_.C_)]] [])]) (H2 := [.box [lsv (encI .u8) 1 x0.I_, lsv (encI .u8) 1 x0.F_, .int .i64 x0.W_, .int .i64 x0.C_], .map [(.int .u8 110, .fn (.func 35) [.agg [lsv (encI .u8) 1 ((⟨x0⟩ : St58).Oper_.I_), lsv (encI .u8) 1 ((⟨x0⟩ : St58).Oper_.F_), .int .i64 ((⟨x0⟩ : St58).Oper_.W_), .int .i64 ((⟨x0⟩ : St58).Oper_.C_)]] []), (.int .u8 105, .fn (.func 36) [.agg [lsv (encI .u8) 1 ((⟨x0⟩ : St58).Oper_.I_), lsv (encI .u8) 1 ((⟨x0⟩ : St58).Oper_.F_), .int .i64 ((⟨x0⟩ : St58).Oper_.W_), .int .i64 ((⟨x0⟩ : St58).Oper_.C_)]] []), (.int .u8 118, .fn (.func 37) [.agg [lsv (encI .u8) 1 ((⟨x0⟩ : St58).Oper_.I_), lsv (encI .u8) 1 ((⟨x0⟩ : St58).Oper_.F_), .int .i64 ((⟨x0⟩ : St58).Oper_.W_), .int .i64 ((⟨x0⟩ : St58).Oper_.C_)]] []), (.int .u8 119, .fn (.func 38) [.agg [lsv (encI .u8) 1 ((⟨x0⟩ : St58).Oper_.I_), lsv (encI .u8) 1 ((⟨x0⟩ : St58).Oper_.F_), .int .i64 ((⟨x0⟩ : St58).Oper_.W_), .int .i64 ((⟨x0⟩ : St58).Oper_.C_)]] []), (.int .u8 102, .fn (.func 39) [.agg [lsv (encI .u8) 1 ((⟨x0⟩ : St58).Oper_.I_), lsv (encI .u8) 1 ((⟨x0⟩ : St58).Oper_.F_), .int .i64 ((⟨x0⟩ : St58).Oper_.W_), .int .i64 ((⟨x0⟩ : St58).Oper_.C_)]] []), (.int .u8 116, .fn (.func 40) [.agg [lsv (encI .u8) 1 ((⟨x0⟩ : St58).Oper_.I_), lsv (encI .u8) 1 ((⟨x0⟩ : St58).Oper_.F_), .int .i64 ((⟨x0⟩ : St58).Oper_.W_), .int .i64 ((⟨x0⟩ : St58).Oper_.C_)]] []), (.int .u8 99, .fn (.func 41) [.agg [lsv (encI .u8) 1 ((⟨x0⟩ : St58).Oper_.I_), lsv (encI .u8) 1 ((⟨x0⟩ : St58).Oper_.F_), .int .i64 ((⟨x0⟩ : St58).Oper_.W_), .int .i64 ((⟨x0⟩ : St58).Oper_.C_)]] []), (.int .u8 101, .fn (.func 41) [.agg [lsv (encI .u8) 1 ((⟨x0⟩ : St58).Oper_.I_), lsv (encI .u8) 1 ((⟨x0⟩ : St58).Oper_.F_), .int .i64 ((⟨x0⟩ : St58).Oper_.W_), .int .i64 ((⟨x0⟩ : St58).Oper_.C_)]] [])]]) (by kernel_rfl) ?_
            obtain ⟨y35, hy36, h37⟩ := bindS h32
            refine RJ.call0 (d := (some 22)) (f := 38) (args := [.agg [lsv (encI .u8) 1 ((⟨x0⟩ : St58).Oper_.I_), lsv (encI .u8) 1 ((⟨x0⟩ : St58).Oper_.F_), .int .i64 ((⟨x0⟩ : St58).Oper_.W_), .int .i64 ((⟨x0⟩ : St58).Oper_.C_)]]) (v := .tup [lsv (encI .u8) 1 y35.1, .bool y35.2]) (tr2 := []) (by kernel_rfl) (by kernel_rfl) (.cons (Le.refl _) .nil) (oper_asked__short_ok hy36) (by kernel_rfl) ?_
            refine RJ.seg 4 [4, 5] (L2 := [(4, lsv (encI .u8) 1 y35.1), (5, .bool y35.2)]) (H2 := [.box [lsv (encI .u8) 1 x0.I_, lsv (encI .u8) 1 x0.F_, .int .i64 x0.W_, .int .i64 x0.C_], .map [(.int .u8 110, .fn (.func 35) [.agg [lsv (encI .u8) 1 ((⟨x0⟩ : St58).Oper_.I_), lsv (encI .u8) 1 ((⟨x0⟩ : St58).Oper_.F_), .int .i64 ((⟨x0⟩ : St58).Oper_.W_), .int .i64 ((⟨x0⟩ : St58).Oper_.C_)]] []), (.int .u8 105, .fn (.func 36) [.agg [lsv (encI .u8) 1 ((⟨x0⟩ : St58).Oper_.I_), lsv (encI .u8) 1 ((⟨x0⟩ : St58).Oper_.F_), .int .i64 ((⟨x0⟩ : St58).Oper_.W_), .int .i64 ((⟨x0⟩ : St58).Oper_.C_)]] []), (.int .u8 118, .fn (.func 37) [.agg [lsv (encI .u8) 1 ((⟨x0⟩ : St58).Oper_.I_), lsv (encI .u8) 1 ((⟨x0⟩ : St58).Oper_.F_), .int .i64 ((⟨x0⟩ : St58).Oper_.W_), .int .i64 ((⟨x0⟩ : St58).Oper_.C_)]] []), (.int .u8 119, .fn (.func 38) [.agg [lsv (encI .u8) 1 ((⟨x0⟩ : St58).Oper_.I_), lsv (encI .u8) 1 ((⟨x0⟩ : St58).Oper_.F_), .int .i64 ((⟨x0⟩ : St58).Oper_.W_), .int .i64 ((⟨x0⟩ : St58).Oper_.C_)]] []), (.int .u8 102, .fn (.func 39) [.agg [lsv (encI .u8) 1 ((⟨x0⟩ : St58).Oper_.I_), lsv (encI .u8) 1 ((⟨x0⟩ : St58).Oper_.F_), .int .i64 ((⟨x0⟩ : St58).Oper_.W_), .int .i64 ((⟨x0⟩ : St58).Oper_.C_)]] []), (.int .u8 116, .fn (.func 40) [.agg [lsv (encI .u8) 1 ((⟨x0⟩ : St58).Oper_.I_), lsv (encI .u8) 1 ((⟨x0⟩ : St58).Oper_.F_), .int .i64 ((⟨x0⟩ : St58).Oper_.W_), .int .i64 ((⟨x0⟩ : St58).Oper_.C_)]] []), (.int .u8 99, .fn (.func 41) [.agg [lsv (encI .u8) 1 ((⟨x0⟩ : St58).Oper_.I_), lsv (encI .u8) 1 ((⟨x0⟩ : St58).Oper_.F_), .int .i64 ((⟨x0⟩ : St58).Oper_.W_), .int .i64 ((⟨x0⟩ : St58).Oper_.C_)]] []), (.int .u8 101, .fn (.func 41) [.agg [lsv (encI .u8) 1 ((⟨x0⟩ : St58).Oper_.I_), lsv (encI .u8) 1 ((⟨x0⟩ : St58).Oper_.F_), .int .i64 ((⟨x0⟩ : St58).Oper_.W_), .int .i64 ((⟨x0⟩ : St58).Oper_.C_)]] [])]]) (by kernel_rfl) ?_
            refine RJ.end (by kernel_rfl) ?_
            refine PJ.next ?_
            refine K.ret (by kernel_rfl) ?_
            obtain rfl := Option.some.inj h37
            exact K.ret0 (.inr rfl) hFn hFH hFD (by kernel_rfl) (by kernel_rfl) (by kernel_rfl)
        · have h25 := condT hb24 h19
          have hn27 := of_decide_eq_true hb24
          refine RJ.look (some 2) (d := some 16) (ef := ⟨.tup [.fn (.func 37) [.agg [lsv (encI .u8) 1 ((⟨x0⟩ : St58).Oper_.I_), lsv (encI .u8) 1 ((⟨x0⟩ : St58).Oper_.F_), .int .i64 ((⟨x0⟩ : St58).Oper_.W_), .int .i64 ((⟨x0⟩ : St58).Oper_.C_)]] [], .bool true], [1], []⟩) (c := hitC (.int .u8 x1) [(.int .u8 110, .fn (.func 35) [.agg [lsv (encI .u8) 1 ((⟨x0⟩ : St58).Oper_.I_), lsv (encI .u8) 1 ((⟨x0⟩ : St58).Oper_.F_), .int .i64 ((⟨x0⟩ : St58).Oper_.W_), .int .i64 ((⟨x0⟩ : St58).Oper_.C_)]] []), (.int .u8 105, .fn (.func 36) [.agg [lsv (encI .u8) 1 ((⟨x0⟩ : St58).Oper_.I_), lsv (encI .u8) 1 ((⟨x0⟩ : St58).Oper_.F_), .int .i64 ((⟨x0⟩ : St58).Oper_.W_), .int .i64 ((⟨x0⟩ : St58).Oper_.C_)]] []), (.int .u8 118, .fn (.func 37) [.agg [lsv (encI .u8) 1 ((⟨x0⟩ : St58).Oper_.I_), lsv (encI .u8) 1 ((⟨x0⟩ : St58).Oper_.F_), .int .i64 ((⟨x0⟩ : St58).Oper_.W_), .int .i64 ((⟨x0⟩ : St58).Oper_.C_)]] []), (.int .u8 119, .fn (.func 38) [.agg [lsv (encI .u8) 1 ((⟨x0⟩ : St58).Oper_.I_), lsv (encI .u8) 1 ((⟨x0⟩ : St58).Oper_.F_), .int .i64 ((⟨x0⟩ : St58).Oper_.W_), .int .i64 ((⟨x0⟩ : St58).Oper_.C_)]] []), (.int .u8 102, .fn (.func 39) [.agg [lsv (encI .u8) 1 ((⟨x0⟩ : St58).Oper_.I_), lsv (encI .u8) 1 ((⟨x0⟩ : St58).Oper_.F_), .int .i64 ((⟨x0⟩ : St58).Oper_.W_), .int .i64 ((⟨x0⟩ : St58).Oper_.C_)]] []), (.int .u8 116, .fn (.func 40) [.agg [lsv (encI .u8) 1 ((⟨x0⟩ : St58).Oper_.I_), lsv (encI .u8) 1 ((⟨x0⟩ : St58).Oper_.F_), .int .i64 ((⟨x0⟩ : St58).Oper_.W_), .int .i64 ((⟨x0⟩ : St58).Oper_.C_)]] []), (.int .u8 99, .fn (.func 41) [.agg [lsv (encI .u8) 1 ((⟨x0⟩ : St58).Oper_.I_), lsv (encI .u8) 1 ((⟨x0⟩ : St58).Oper_.F_), .int .i64 ((⟨x0⟩ : St58).Oper_.W_), .int .i64 ((⟨x0⟩ : St58).Oper_.C_)]] []), (.int .u8 101, .fn (.func 41) [.agg [lsv (encI .u8) 1 ((⟨x0⟩ : St58).Oper_.I_), lsv (encI .u8) 1 ((⟨x0⟩ : St58).Oper_.F_), .int .i64 ((⟨x0⟩ : St58).Oper_.W_), .int .i64 ((⟨x0⟩ : St58).Oper_.C_)]] [])] 2) (tr2 := []) (by kernel_rfl) (by simp [hitC, missC, sameB, sameE, hn13, hn20, hn27]) ?_
          refine RJ.seg 5 [4, 5, 6, 7] (L2 := [(4, .nl), (5, .bool false), (6, .fn (.func 37) [.agg [lsv (encI .u8) 1 ((⟨x0⟩ : St58).Oper_.I_), lsv (encI .u8) 1 ((⟨x0⟩ : St58).Oper_.F_), .int .i64 ((⟨x0⟩ : St58).Oper_.W_), .int .i64 ((⟨x0⟩ : St58).Oper_.C_)]] []), (7, .bool true)]) (H2 := [.box [lsv (encI .u8) 1 x0.I_, lsv (encI .u8) 1 x0.F_, .int .i64 x0.W_, .int .i64 x0.C_], .map [(.int .u8 110, .fn (.func 35) [.agg [lsv (encI .u8) 1 ((⟨x0⟩ : St58).Oper_.I_), lsv (encI .u8) 1 ((⟨x0⟩ : St58).Oper_.F_), .int .i64 ((⟨x0⟩ : St58).Oper_.W_), .int .i64 ((⟨x0⟩ : St58).Oper_.C_)]] []), (.int .u8 105, .fn (.func 36) [.agg [lsv (encI .u8) 1 ((⟨x0⟩ : St58).Oper_.I_), lsv (encI .u8) 1 ((⟨x0⟩ : St58).Oper_.F_), .int .i64 ((⟨x0⟩ : St58).Oper_.W_), .int .i64 ((⟨x0⟩ : St58).Oper_.C_)]] []), (.int .u8 118, .fn (.func 37) [.agg [lsv (encI .u8) 1 ((⟨x0⟩ : St58).Oper_.I_), lsv (encI .u8) 1 ((⟨x0⟩ : St58).Oper_.F_), .int .i64 ((⟨x0⟩ : St58).Oper_.W_), .int .i64 ((⟨x0⟩ : St58).Oper_.C_)]] []), (.int .u8 119, .fn (.func 38) [.agg [lsv (encI .u8) 1 ((⟨x0⟩ : St58).Oper_.I_), lsv (encI .u8) 1 ((⟨x0⟩ : St58).Oper_.F_), .int .i64 ((⟨x0⟩ : St58).Oper_.W_), .int .i64 ((⟨x0⟩ : St58).Oper_.C_)]] []), (.int .u8 102, .fn (.func 39) [.agg [lsv (encI .u8) 1 ((⟨x0⟩ : St58).Oper_.I_), lsv (encI .u8) 1 ((⟨x0⟩ : St58).Oper_.F_), .int .i64 ((⟨x0⟩ : St58).Oper_.W_), .int .i64 ((⟨x0⟩ : St58).Oper_.C_)]] []), (.int .u8 116, .fn (.func 40) [.agg [lsv (encI .u8) 1 ((⟨x0⟩ : St58).Oper_.I_), lsv (encI .u8) 1 ((⟨x0⟩ : St58).Oper_.F_), .int .i64 ((⟨x0⟩ : St58).Oper_.W_), .int .i64 ((⟨x0⟩ : St58).Oper_.C_)]] []), (.int .u8 99, .fn (.func 41) [.agg [lsv (encI .u8) 1 ((⟨x0⟩ : St58).Oper_.I_), lsv (encI .u8) 1 ((⟨x0⟩ : St58).Oper_.F_), .int .i64 ((⟨x0⟩ : St58).Oper_.W_), .int .i64 ((⟨x0⟩ : St58).Oper_.C_)]] []), (.int .u8 101, .fn (.func 41) [.agg [lsv (encI .u8) 1 ((⟨x0⟩ : St58).Oper_.I_), lsv (encI .u8) 1 ((⟨x0⟩ : St58).Oper_.F_), .int .i64 ((⟨x0⟩ : St58).Oper_.W_), .int .i64 ((⟨x0⟩ : St58).Oper_.C_)]] [])]]) (by kernel_rfl) ?_
          refine RJ.end (by kernel_rfl) ?_
          refine PJ.next ?_
          refine K.seq (by kernel_rfl) ?_
          refine K.seq (by kernel_rfl) ?_
          refine K.region (by kernel_rfl) ?_
          refine RJ.seg 2 [4, 5, 6, 20] (L2 := [(4, .nl), (5, .bool false), (6, .fn (.func 37) [.agg [lsv (encI .u8) 1 ((⟨x0⟩ : St58).Oper_.I_), lsv (encI .u8) 1 ((⟨x0⟩ : St58).Oper_.F_), .int .i64 ((⟨x0⟩ : St58).Oper_.W_), .int .i64 ((⟨x0⟩ : St58).Oper_.C_)]] []), (20, .bool false)]) (H2 := [.box [lsv (encI .u8) 1 x0.I_, lsv (encI .u8) 1 x0.F_, .int .i64 x0.W_, .int .i64 x0.C_], .map [(.int .u8 110, .fn (.func 35) [.agg [lsv (encI .u8) 1 ((⟨x0⟩ : St58).Oper_.I_), lsv (encI .u8) 1 ((⟨x0⟩ : St58).Oper_.F_), .int .i64 ((⟨x0⟩ : St58).Oper_.W_), .int .i64 ((⟨x0⟩ : St58).Oper_.C_)]] []), (.int .u8 105, .fn (.func 36) [.agg [lsv (encI .u8) 1 ((⟨x0⟩ : St58).Oper_.I_), lsv (encI .u8) 1 ((⟨x0⟩ : St58).Oper_.F_), .int .i64 ((⟨x0⟩ : St58).Oper_.W_), .int .i64 ((⟨x0⟩ : St58).Oper_.C_)]] []), (.int .u8 118, .fn (.func 37) [.agg [lsv (encI .u8) 1 ((⟨x0⟩ : St58).Oper_.I_), lsv (encI .u8) 1 ((⟨x0⟩ : St58).Oper_.F_), .int .i64 ((⟨x0⟩ : St58).Oper_.W_), .int .i64 ((⟨x0⟩ : St58).Oper_.C_)]] []), (.int .u8 119, .fn (.func 38) [.agg [lsv (encI .u8) 1 ((⟨x0⟩ : St58).Oper_.I_), lsv (encI .u8) 1 ((⟨x0⟩ : St58).Oper_.F_), .int .i64 ((⟨x0⟩ : St58).Oper_.W_), .int .i64 ((⟨x0⟩ : St58).Oper_.C_)]] []), (.int .u8 102, .fn (.func 39) [.agg [lsv (encI .u8) 1 ((⟨x0⟩ : St58).Oper_.I_), lsv (encI .u8) 1 ((⟨x0⟩ : St58).Oper_.F_), .int .i64 ((⟨x0⟩ : St58).Oper_.W_), .int .i64 ((⟨x0⟩ : St58).Oper_.C_)]] []), (.int .u8 116, .fn (.func 40) [.agg [lsv (encI .u8) 1 ((⟨x0⟩ : St58).Oper_.I_), lsv (encI .u8) 1 ((⟨x0⟩ : St58).Oper_.F_), .int .i64 ((⟨x0⟩ : St58).Oper_.W_), .int .i64 ((⟨x0⟩ : St58).Oper_.C_)]] []), (.int .u8 99, .fn (.func 41) [.agg [lsv (encI .u8) 1 ((⟨x0⟩ : St58).Oper_.I_), lsv (encI .u8) 1 ((⟨x0⟩ : St58).Oper_.F_), .int .i64 ((⟨x0⟩ : St58).Oper_.W_), .int .i64 ((⟨x0⟩ : St58).Oper_.C_)]] []), (.int .u8 101, .fn (.func 41) [.agg [lsv (encI .u8) 1 ((⟨x0⟩ : St58).Oper_.I_), lsv (encI .u8) 1 ((⟨x0⟩ : St58).Oper_.F_), .int .i64 ((⟨x0⟩ : St58).Oper_.W_), .int .i64 ((⟨x0⟩ : St58).Oper_.C_)]] [])]]) (by kernel_rfl) ?_
          refine RJ.end (by kernel_rfl) ?_
          refine PJ.next ?_
          refine K.condF (by kernel_rfl) ?_
          refine K.skip (by kernel_rfl) ?_
          refine PJ.next ?_
          refine K.seq (by kernel_rfl) ?_
          refine K.region (by kernel_rfl) ?_
          refine RJ.seg 1 [4, 5, 21] (L2 := [(4, .nl), (5, .bool false), (21, .fn (.func 37) [.agg [lsv (encI .u8) 1 ((⟨x0⟩ : St58).Oper_.I_), lsv (encI .u8) 1 ((⟨x0⟩ : St58).Oper_.F_), .int .i64 ((⟨x0⟩ : St58).Oper_.W_), .int .i64 ((⟨x0⟩ : St58).Oper_.C_)]] [])]) (H2 := [.box [lsv (encI .u8) 1 x0.I_, lsv (encI .u8) 1 x0.F_, .int .i64 x0.W_, .int .i64 x0.C_], .map [(.int .u8 110, .fn (.func 35) [.agg [lsv (encI .u8) 1 ((⟨x0⟩ : St58).Oper_.I_), lsv (encI .u8) 1 ((⟨x0⟩ : St58).Oper_.F_), .int .i64 ((⟨x0⟩ : St58).Oper_.W_), .int .i64 ((⟨x0⟩ : St58).Oper_.C_)]] []), (.int .u8 105, .fn (.func 36) [.agg [lsv (encI .u8) 1 ((⟨x0⟩ : St58).Oper_.I_), lsv (encI .u8) 1 ((⟨x0⟩ : St58).Oper_.F_), .int .i64 ((⟨x0⟩ : St58).Oper_.W_), .int .i64 ((⟨x0⟩ : St58).Oper_.C_)]] []), (.int .u8 118, .fn (.func 37) [.agg [lsv (encI .u8) 1 ((⟨x0⟩ : St58).Oper_.I_), lsv (encI .u8) 1 ((⟨x0⟩ : St58).Oper_.F_), .int .i64 ((⟨x0⟩ : St58).Oper_.W_), .int .i64 ((⟨x0⟩ : St58).Oper_.C_)]] []), (.int .u8 119, .fn (.func 38) [.agg [lsv (encI .u8) 1 ((⟨x0⟩ : St58).Oper_.I_), lsv (encI .u8) 1 ((⟨x0⟩ : St58).Oper_.F_), .int .i64 ((⟨x0⟩ : St58).Oper_.W_), .int .i64 ((⟨x0⟩ : St58).Oper_.C_)]] []), (.int .u8 102, .fn (.func 39) [.agg [lsv (encI .u8) 1 ((⟨x0⟩ : St58).Oper_.I_), lsv (encI .u8) 1 ((⟨x0⟩ : St58).Oper_.F_), .int .i64 ((⟨x0⟩ : St58).Oper_.W_), .int .i64 ((⟨x0⟩ : St58).Oper_.C_)]] []), (.int .u8 116, .fn (.func 40) [.agg [lsv (encI .u8) 1 ((⟨x0⟩ : St58).Oper_.I_), lsv (encI .u8) 1 ((⟨x0⟩ : St58).Oper_.F_), .int .i64 ((⟨x0⟩ : St58).Oper_.W_), .int .i64 ((⟨x0⟩ : St58).Oper_.C_)]] []), (.int .u8 99, .fn (.func 41) [.agg [lsv (encI .u8) 1 ((⟨x0⟩ : St58).Oper_.I_), lsv (encI .u8) 1 ((⟨x0⟩ : St58).Oper_.F_), .int .i64 ((⟨x0⟩ : St58).Oper_.W_), .int .i64 ((⟨x0⟩ : St58).Oper_.C_)]] []), (.int .u8 101, .fn (.func 41) [.agg [lsv (encI .u8) 1 ((⟨x0⟩ : St58).Oper_.I_), lsv (encI .u8) 1 ((⟨x0⟩ : St58).Oper_.F_), .int .i64 ((⟨x0⟩ : St58).Oper_.W_), .int .i64 ((⟨x0⟩ : St58).Oper_.C_)]] [])]]) (by kernel_rfl) ?_
          obtain ⟨y28, hy29, h30⟩ := bindS h25
          refine RJ.call0 (d := (some 22)) (f := 37) (args := [.agg [lsv (encI .u8) 1 ((⟨x0⟩ : St58).Oper_.I_), lsv (encI .u8) 1 ((⟨x0⟩ : St58).Oper_.F_), .int .i64 ((⟨x0⟩ : St58).Oper_.W_), .int .i64 ((⟨x0⟩ : St58).Oper_.C_)]]) (v := .tup [lsv (encI .u8) 1 y28.1, .bool y28.2]) (tr2 := []) (by kernel_rfl) (by kernel_rfl) (.cons (Le.refl _) .nil) (oper_asked__long_ok hy29) (by kernel_rfl) ?_
          refine RJ.seg 4 [4, 5] (L2 := [(4, lsv (encI .u8) 1 y28.1), (5, .bool y28.2)]) (H2 := [.box [lsv (encI .u8) 1 x0.I_, lsv (encI .u8) 1 x0.F_, .int .i64 x0.W_, .int .i64 x0.C_], .map [(.int .u8 110, .fn (.func 35) [.agg [lsv (encI .u8) 1 ((⟨x0⟩ : St58).Oper_.I_), lsv (encI .u8) 1 ((⟨x0⟩ : St58).Oper_.F_), .int .i64 ((⟨x0⟩ : St58).Oper_.W_), .int .i64 ((⟨x0⟩ : St58).Oper_.C_)]] []), (.int .u8 105, .fn (.func 36) [.agg [lsv (encI .u8) 1 ((⟨x0⟩ : St58).Oper_.I_), lsv (encI .u8) 1 ((⟨x0⟩ : St58).Oper_.F_), .int .i64 ((⟨x0⟩ : St58).Oper_.W_), .int .i64 ((⟨x0⟩ : St58).Oper_.C_)]] []), (.int .u8 118, .fn (.func 37) [.agg [lsv (encI .u8) 1 ((⟨x0⟩ : St58).Oper_.I_), lsv (encI .u8) 1 ((⟨x0⟩ : St58).Oper_.F_), .int .i64 ((⟨x0⟩ : St58).Oper_.W_), .int .i64 ((⟨x0⟩ : St58).Oper_.C_)]] []), (.int .u8 119, .fn (.func 38) [.agg [lsv (encI .u8) 1 ((⟨x0⟩ : St58).Oper_.I_), lsv (encI .u8) 1 ((⟨x0⟩ : St58).Oper_.F_), .int .i64 ((⟨x0⟩ : St58).Oper_.W_), .int .i64 ((⟨x0⟩ : St58).Oper_.C_)]] []), (.int .u8 102, .fn (.func 39) [.agg [lsv (encI .u8) 1 ((⟨x0⟩ : St58).Oper_.I_), lsv (encI .u8) 1 ((⟨x0⟩ : St58).Oper_.F_), .int .i64 ((⟨x0⟩ : St58).Oper_.W_), .int .i64 ((⟨x0⟩ : St58).Oper_.C_)]] []), (.int .u8 116, .fn (.func 40) [.agg [lsv (encI .u8) 1 ((⟨x0⟩ : St58).Oper_.I_), lsv (encI .u8) 1 ((⟨x0⟩ : St58).Oper_.F_), .int .i64 ((⟨x0⟩ : St58).Oper_.W_), .int .i64 ((⟨x0⟩ : St58).Oper_.C_)]] []), (.int .u8 99, .fn (.func 41) [.agg [lsv (encI .u8) 1 ((⟨x0⟩ : St58).Oper_.I_), lsv (encI .u8) 1 ((⟨x0⟩ : St58).Oper_.F_), .int .i64 ((⟨x0⟩ : St58).Oper_.W_), .int .i64 ((⟨x0⟩ : St58).Oper_.C_)]] []), (.int .u8 101, .fn (.func 41) [.agg [lsv (encI .u8) 1 ((⟨x0⟩ : St58).Oper_.I_), lsv (encI .u8) 1 ((⟨x0⟩ : St58).Oper_.F_), .int .i64 ((⟨x0⟩ : St58).Oper_.W_), .int .i64 ((⟨x0⟩ : St58).Oper_.C_)]] [])]]) (by kernel_rfl) ?_
          refine RJ.end (by kernel_rfl) ?_
          refine PJ.next ?_
          refine K.ret (by kernel_rfl) ?_
          obtain rfl := Option.some.inj h30
          exact K.ret0 (.inr rfl) hFn hFH hFD (by kernel_rfl) (by kernel_rfl) (by kernel_rfl)
      · have h18 := condT hb17 h12
        have hn20 := of_decide_eq_true hb17
        refine RJ.look (some 1) (d := some 16) (ef := ⟨.tup [.fn (.func 36) [.agg [lsv (encI .u8) 1 ((⟨x0⟩ : St58).Oper_.I_), lsv (encI .u8) 1 ((⟨x0⟩ : St58).Oper_.F_), .int .i64 ((⟨x0⟩ : St58).Oper_.W_), .int .i64 ((⟨x0⟩ : St58).Oper_.C_)]] [], .bool true], [1], []⟩) (c := hitC (.int .u8 x1) [(.int .u8 110, .fn (.func 35) [.agg [lsv (encI .u8) 1 ((⟨x0⟩ : St58).Oper_.I_), lsv (encI .u8) 1 ((⟨x0⟩ : St58).Oper_.F_), .int .i64 ((⟨x0⟩ : St58).Oper_.W_), .int .i64 ((⟨x0⟩ : St58).Oper_.C_)]] []), (.int .u8 105, .fn (.func 36) [.agg [lsv (encI .u8) 1 ((⟨x0⟩ : St58).Oper_.I_), lsv (encI .u8) 1 ((⟨x0⟩ : St58).Oper_.F_), .int .i64 ((⟨x0⟩ : St58).Oper_.W_), .int .i64 ((⟨x0⟩ : St58).Oper_.C_)]] []), (.int .u8 118, .fn (.func 37) [.agg [lsv (encI .u8) 1 ((⟨x0⟩ : St58).Oper_.I_), lsv (encI .u8) 1 ((⟨x0⟩ : St58).Oper_.F_), .int .i64 ((⟨x0⟩ : St58).Oper_.W_), .int .i64 ((⟨x0⟩ : St58).Oper_.C_)]] []), (.int .u8 119, .fn (.func 38) [.agg [lsv (encI .u8) 1 ((⟨x0⟩ : St58).Oper_.I_), lsv (encI .u8) 1 ((⟨x0⟩ : St58).Oper_.F_), .int .i64 ((⟨x0⟩ : St58).Oper_.W_), .int .i64 ((⟨x0⟩ : St58).Oper_.C_)]] []), (.int .u8 102, .fn (.func 39) [.agg [lsv (encI .u8) 1 ((⟨x0⟩ : St58).Oper_.I_), lsv (encI .u8) 1 ((⟨x0⟩ : St58).Oper_.F_), .int .i64 ((⟨x0⟩ : St58).Oper_.W_), .int .i64 ((⟨x0⟩ : St58).Oper_.C_)]] []), (.int .u8 116, .fn (.func 40) [.agg [lsv (encI .u8) 1 ((⟨x0⟩ : St58).Oper_.I_), lsv (encI .u8) 1 ((⟨x0⟩ : St58).Oper_.F_), .int .i64 ((⟨x0⟩ : St58).Oper_.W_), .int .i64 ((⟨x0⟩ : St58).Oper_.C_)]] []), (.int .u8 99, .fn (.func 41) [.agg [lsv (encI .u8) 1 ((⟨x0⟩ : St58).Oper_.I_), lsv (encI .u8) 1 ((⟨x0⟩ : St58).Oper_.F_), .int .i64 ((⟨x0⟩ : St58).Oper_.W_), .int .i64 ((⟨x0⟩ : St58).Oper_.C_)]] []), (.int .u8 101, .fn (.func 41) [.agg [lsv (encI .u8) 1 ((⟨x0⟩ : St58).Oper_.I_), lsv (encI .u8) 1 ((⟨x0⟩ : St58).Oper_.F_), .int .i64 ((⟨x0⟩ : St58).Oper_.W_), .int .i64 ((⟨x0⟩ : St58).Oper_.C_)]] [])] 1) (tr2 := []) (by kernel_rfl) (by simp [hitC, missC, sameB, sameE, hn13, hn20]) ?_
        refine RJ.seg 5 [4, 5, 6, 7] (L2 := [(4, .nl), (5, .bool false), (6, .fn (.func 36) [.agg [lsv (encI .u8) 1 ((⟨x0⟩ : St58).Oper_.I_), lsv (encI .u8) 1 ((⟨x0⟩ : St58).Oper_.F_), .int .i64 ((⟨x0⟩ : St58).Oper_.W_), .int .i64 ((⟨x0⟩ : St58).Oper_.C_)]] []), (7, .bool true)]) (H2 := [.box [lsv (encI .u8) 1 x0.I_, lsv (encI .u8) 1 x0.F_, .int .i64 x0.W_, .int .i64 x0.C_], .map [(.int .u8 110, .fn (.func 35) [.agg [lsv (encI .u8) 1 ((⟨x0⟩ : St58).Oper_.I_), lsv (encI .u8) 1 ((⟨x0⟩ : St58).Oper_.F_), .int .i64 ((⟨x0⟩ : St58).Oper_.W_), .int .i64 ((⟨x0⟩ : St58).Oper_.C_)]] []), (.int .u8 105, .fn (.func 36) [.agg [lsv (encI .u8) 1 ((⟨x0⟩ : St58).Oper_.I_), lsv (encI .u8) 1 ((⟨x0⟩ : St58).Oper_.F_), .int .i64 ((⟨x0⟩ : St58).Oper_.W_), .int .i64 ((⟨x0⟩ : St58).Oper_.C_)]] []), (.int .u8 118, .fn (.func 37) [.agg [lsv (encI .u8) 1 ((⟨x0⟩ : St58).Oper_.I_), lsv (encI .u8) 1 ((⟨x0⟩ : St58).Oper_.F_), .int .i64 ((⟨x0⟩ : St58).Oper_.W_), .int .i64 ((⟨x0⟩ : St58).Oper_.C_)]] []), (.int .u8 119, .fn (.func 38) [.agg [lsv (encI .u8) 1 ((⟨x0⟩ : St58).Oper_.I_), lsv (encI .u8) 1 ((⟨x0⟩ : St58).Oper_.F_), .int .i64 ((⟨x0⟩ : St58).Oper_.W_), .int .i64 ((⟨x0⟩ : St58).Oper_.C_)]] []), (.int .u8 102, .fn (.func 39) [.agg [lsv (encI .u8) 1 ((⟨x0⟩ : St58).Oper_.I_), lsv (encI .u8) 1 ((⟨x0⟩ : St58).Oper_.F_), .int .i64 ((⟨x0⟩ : St58).Oper_.W_), .int .i64 ((⟨x0⟩ : St58).Oper_.C_)]] []), (.int .u8 116, .fn (.func 40) [.agg [lsv (encI .u8) 1 ((⟨x0⟩ : St58).Oper_.I_), lsv (encI .u8) 1 ((⟨x0⟩ : St58).Oper_.F_), .int .i64 ((⟨x0⟩ : St58).Oper_.W_), .int .i64 ((⟨x0⟩ : St58).Oper_.C_)]] []), (.int .u8 99, .fn (.func 41) [.agg [lsv (encI .u8) 1 ((⟨x0⟩ : St58).Oper_.I_), lsv (encI .u8) 1 ((⟨x0⟩ : St58).Oper_.F_), .int .i64 ((⟨x0⟩ : St58).Oper_.W_), .int .i64 ((⟨x0⟩ : St58).Oper_.C_)]] []), (.int .u8 101, .fn (.func 41) [.agg [lsv (encI .u8) 1 ((⟨x0⟩ : St58).Oper_.I_), lsv (encI .u8) 1 ((⟨x0⟩ : St58).Oper_.F_), .int .i64 ((⟨x0⟩ : St58).Oper_.W_), .int .i64 ((⟨x0⟩ : St58).Oper_.C_)]] [])]]) (by kernel_rfl) ?_
        refine RJ.end (by kernel_rfl) ?_
        refine PJ.next ?_
        refine K.seq (by kernel_rfl) ?_
        refine K.seq (by kernel_rfl) ?_
        refine K.region (by kernel_rfl) ?_
        refine RJ.seg 2 [4, 5, 6, 20] (L2 := [(4, .nl), (5, .bool false), (6, .fn (.func 36) [.agg [lsv (encI .u8) 1 ((⟨x0⟩ : St58).Oper_.I_), lsv (encI .u8) 1 ((⟨x0⟩ : St58).Oper_.F_), .int .i64 ((⟨x0⟩ : St58).Oper_.W_), .int .i64 ((⟨x0⟩ : St58).Oper_.C_)]] []), (20, .bool false)]) (H2 := [.box [lsv (encI .u8) 1 x0.I_, lsv (encI .u8) 1 x0.F_, .int .i64 x0.W_, .int .i64 x0.C_], .map [(.int .u8 110, .fn (.func 35) [.agg [lsv (encI .u8) 1 ((⟨x0⟩ : St58).Oper_.I_), lsv (encI .u8) 1 ((⟨x0⟩ : St58).Oper_.F_), .int .i64 ((⟨x0⟩ : St58).Oper_.W_), .int .i64 ((⟨x0⟩ : St58).Oper_.C_)]] []), (.int .u8 105, .fn (.func 36) [.agg [lsv (encI .u8) 1 ((⟨x0⟩ : St58).Oper_.I_), lsv (encI .u8) 1 ((⟨x0⟩ : St58).Oper_.F_), .int .i64 ((⟨x0⟩ : St58).Oper_.W_), .int .i64 ((⟨x0⟩ : St58).Oper_.C_)]] []), (.int .u8 118, .fn (.func 37) [.agg [lsv (encI .u8) 1 ((⟨x0⟩ : St58).Oper_.I_), lsv (encI .u8) 1 ((⟨x0⟩ : St58).Oper_.F_), .int .i64 ((⟨x0⟩ : St58).Oper_.W_), .int .i64 ((⟨x0⟩ : St58).Oper_.C_)]] []), (.int .u8 119, .fn (.func 38) [.agg [lsv (encI .u8) 1 ((⟨x0⟩ : St58).Oper_.I_), lsv (encI .u8) 1 ((⟨x0⟩ : St58).Oper_.F_), .int .i64 ((⟨x0⟩ : St58).Oper_.W_), .int .i64 ((⟨x0⟩ : St58).Oper_.C_)]] []), (.int .u8 102, .fn (.func 39) [.agg [lsv (encI .u8) 1 ((⟨x0⟩ : St58).Oper_.I_), lsv (encI .u8) 1 ((⟨x0⟩ : St58).Oper_.F_), .int .i64 ((⟨x0⟩ : St58).Oper_.W_), .int .i64 ((⟨x0⟩ : St58).Oper_.C_)]] []), (.int .u8 116, .fn (.func 40) [.agg [lsv (encI .u8) 1 ((⟨x0⟩ : St58).Oper_.I_), lsv (encI .u8) 1 ((⟨x0⟩ : St58).Oper_.F_), .int .i64 ((⟨x0⟩ : St58).Oper_.W_), .int .i64 ((⟨x0⟩ : St58).Oper_.C_)]] []), (.int .u8 99, .fn (.func 41) [.agg [lsv (encI .u8) 1 ((⟨x0⟩ : St58).Oper_.I_), lsv (encI .u8) 1 ((⟨x0⟩ : St58).Oper_.F_), .int .i64 ((⟨x0⟩ : St58).Oper_.W_), .int .i64 ((⟨x0⟩ : St58).Oper_.C_)]] []), (.int .u8 101, .fn (.func 41) [.agg [lsv (encI .u8) 1 ((⟨x0⟩ : St58).Oper_.I_), lsv (encI .u8) 1 ((⟨x0⟩ : St58).Oper_.F_), .int .i64 ((⟨x0⟩ : St58).Oper_.W_), .int .i64 ((⟨x0⟩ : St58).Oper_.C_)]] [])]]) (by kernel_rfl) ?_
        refine RJ.end (by kernel_rfl) ?_
        refine PJ.next ?_
        refine K.condF (by kernel_rfl) ?_
        refine K.skip (by kernel_rfl) ?_
        refine PJ.next ?_
        refine K.seq (by kernel_rfl) ?_
        refine K.region (by kernel_rfl) ?_
        refine RJ.seg 1 [4, 5, 21] (L2 := [(4, .nl), (5, .bool false), (21, .fn (.func 36) [.agg [lsv (encI .u8) 1 ((⟨x0⟩ : St58).Oper_.I_), lsv (encI .u8) 1 ((⟨x0⟩ : St58).Oper_.F_), .int .i64 ((⟨x0⟩ : St58).Oper_.W_), .int .i64 ((⟨x0⟩ : St58).Oper_.C_)]] [])]) (H2 := [.box [lsv (encI .u8) 1 x0.I_, lsv (encI .u8) 1 x0.F_, .int .i64 x0.W_, .int .i64 x0.C_], .map [(.int .u8 110, .fn (.func 35) [.agg [lsv (encI .u8) 1 ((⟨x0⟩ : St58).Oper_.I_), lsv (encI .u8) 1 ((⟨x0⟩ : St58).Oper_.F_), .int .i64 ((⟨x0⟩ : St58).Oper_.W_), .int .i64 ((⟨x0⟩ : St58).Oper_.C_)]] []), (.int .u8 105, .fn (.func 36) [.agg [lsv (encI .u8) 1 ((⟨x0⟩ : St58).Oper_.I_), lsv (encI .u8) 1 ((⟨x0⟩ : St58).Oper_.F_), .int .i64 ((⟨x0⟩ : St58).Oper_.W_), .int .i64 ((⟨x0⟩ : St58).Oper_.C_)]] []), (.int .u8 118, .fn (.func 37) [.agg [lsv (encI .u8) 1 ((⟨x0⟩ : St58).Oper_.I_), lsv (encI .u8) 1 ((⟨x0⟩ : St58).Oper_.F_), .int .i64 ((⟨x0⟩ : St58).Oper_.W_), .int .i64 ((⟨x0⟩ : St58).Oper_.C_)]] []), (.int .u8 119, .fn (.func 38) [.agg [lsv (encI .u8) 1 ((⟨x0⟩ : St58).Oper_.I_), lsv (encI .u8) 1 ((⟨x0⟩ : St58).Oper_.F_), .int .i64 ((⟨x0⟩ : St58).Oper_.W_), .int .i64 ((⟨x0⟩ : St58).Oper_.C_)]] []), (.int .u8 102, .fn (.func 39) [.agg [lsv (encI .u8) 1 ((⟨x0⟩ : St58).Oper_.I_), lsv (encI .u8) 1 ((⟨x0⟩ : St58).Oper_.F_), .int .i64 ((⟨x0⟩ : St58).Oper_.W_), .int .i64 ((⟨x0⟩ : St58).Oper_.C_)]] []), (.int .u8 116, .fn (.func 40) [.agg [lsv (encI .u8) 1 ((⟨x0⟩ : St58).Oper_.I_), lsv (encI .u8) 1 ((⟨x0⟩ : St58).Oper_.F_), .int .i64 ((⟨x0⟩ : St58).Oper_.W_), .int .i64 ((⟨x0⟩ : St58).Oper_.C_)]] []), (.int .u8 99, .fn (.func 41) [.agg [lsv (encI .u8) 1 ((⟨x0⟩ : St58).Oper_.I_), lsv (encI .u8) 1 ((⟨x0⟩ : St58).Oper_.F_), .int .i64 ((⟨x0⟩ : St58).Oper_.W_), .int .i64 ((⟨x0⟩ : St58).Oper_.C_)]] []), (.int .u8 101, .fn (.func 41) [.agg [lsv (encI .u8) 1 ((⟨x0⟩ : St58).Oper_.I_), lsv (encI .u8) 1 ((⟨x0⟩ : St58).Oper_.F_), .int .i64 ((⟨x0⟩ : St58).Oper_.W_), .int .i64 ((⟨x0⟩ : St58).Oper_.C_)]] [])]]) (by kernel_rfl) ?_
        obtain ⟨y21, hy22, h23⟩ := bindS h18
        refine RJ.call0 (d := (some 22)) (f := 36) (args := [.agg [lsv (encI .u8) 1 ((⟨x0⟩ : St58).Oper_.I_), lsv (encI .u8) 1 ((⟨x0⟩ : St58).Oper_.F_), .int .i64 ((⟨x0⟩ : St58).Oper_.W_), .int .i64 ((⟨x0⟩ : St58).Oper_.C_)]]) (v := .tup [lsv (encI .u8) 1 y21.1, .bool y21.2]) (tr2 := []) (by kernel_rfl) (by kernel_rfl) (.cons (Le.refl _) .nil) (oper_asked__whole_ok hy22) (by kernel_rfl) ?_
        refine RJ.seg 4 [4, 5] (L2 := [(4, lsv (encI .u8) 1 y21.1), (5, .bool y21.2)]) (H2 := [.box [lsv (encI .u8) 1 x0.I_, lsv (encI .u8) 1 x0.F_, .int .i64 x0.W_, .int .i64 x0.C_], .map [(.int .u8 110, .fn (.func 35) [.agg [lsv (encI .u8) 1 ((⟨x0⟩ : St58).Oper_.I_), lsv (encI .u8) 1 ((⟨x0⟩ : St58).Oper_.F_), .int .i64 ((⟨x0⟩ : St58).Oper_.W_), .int .i64 ((⟨x0⟩ : St58).Oper_.C_)]] []), (.int .u8 105, .fn (.func 36) [.agg [lsv (encI .u8) 1 ((⟨x0⟩ : St58).Oper_.I_), lsv (encI .u8) 1 ((⟨x0⟩ : St58).Oper_.F_), .int .i64 ((⟨x0⟩ : St58).Oper_.W_), .int .i64 ((⟨x0⟩ : St58).Oper_.C_)]] []), (.int .u8 118, .fn (.func 37) [.agg [lsv (encI .u8) 1 ((⟨x0⟩ : St58).Oper_.I_), lsv (encI .u8) 1 ((⟨x0⟩ : St58).Oper_.F_), .int .i64 ((⟨x0⟩ : St58).Oper_.W_), .int .i64 ((⟨x0⟩ : St58).Oper_.C_)]] []), (.int .u8 119, .fn (.func 38) [.agg [lsv (encI .u8) 1 ((⟨x0⟩ : St58).Oper_.I_), lsv (encI .u8) 1 ((⟨x0⟩ : St58).Oper_.F_), .int .i64 ((⟨x0⟩ : St58).Oper_.W_), .int .i64 ((⟨x0⟩ : St58).Oper_.C_)]] []), (.int .u8 102, .fn (.func 39) [.agg [lsv (encI .u8) 1 ((⟨x0⟩ : St58).Oper_.I_), lsv (encI .u8) 1 ((⟨x0⟩ : St58).Oper_.F_), .int .i64 ((⟨x0⟩ : St58).Oper_.W_), .int .i64 ((⟨x0⟩ : St58).Oper_.C_)]] []), (.int .u8 116, .fn (.func 40) [.agg [lsv (encI .u8) 1 ((⟨x0⟩ : St58).Oper_.I_), lsv (encI .u8) 1 ((⟨x0⟩ : St58).Oper_.F_), .int .i64 ((⟨x0⟩ : St58).Oper_.W_), .int .i64 ((⟨x0⟩ : St58).Oper_.C_)]] []), (.int .u8 99, .fn (.func 41) [.agg [lsv (encI .u8) 1 ((⟨x0⟩ : St58).Oper_.I_), lsv (encI .u8) 1 ((⟨x0⟩ : St58).Oper_.F_), .int .i64 ((⟨x0⟩ : St58).Oper_.W_), .int .i64 ((⟨x0⟩ : St58).Oper_.C_)]] []), (.int .u8 101, .fn (.func 41) [.agg [lsv (encI .u8) 1 ((⟨x0⟩ : St58).Oper_.I_), lsv (encI .u8) 1 ((⟨x0⟩ : St58).Oper_.F_), .int .i64 ((⟨x0⟩ : St58).Oper_.W_), .int .i64 ((⟨x0⟩ : St58).Oper_.C_)]] [])]]) (by kernel_rfl) ?_
        refine RJ.end (by kernel_rfl) ?_
        refine PJ.next ?_
        refine K.ret (by kernel_rfl) ?_
        obtain rfl := Option.some.inj h23
        exact K.ret0 (.inr rfl) hFn hFH hFD (by kernel_rfl) (by kernel_rfl) (by kernel_rfl)
    · have h11 := condT hb10 h9
      have hn13 := of_decide_eq_true hb10
      refine RJ.look (some 0) (d := some 16) (ef := ⟨.tup [.fn (.func 35) [.agg [lsv (encI .u8) 1 ((⟨x0⟩ : St58).Oper_.I_), lsv (encI .u8) 1 ((⟨x0⟩ : St58).Oper_.F_), .int .i64 ((⟨x0⟩ : St58).Oper_.W_), .int .i64 ((⟨x0⟩ : St58).Oper_.C_)]] [], .bool true], [1], []⟩) (c := hitC (.int .u8 x1) [(.int .u8 110, .fn (.func 35) [.agg [lsv (encI .u8) 1 ((⟨x0⟩ : St58).Oper_.I_), lsv (encI .u8) 1 ((⟨x0⟩ : St58).Oper_.F_), .int .i64 ((⟨x0⟩ : St58).Oper_.W_), .int .i64 ((⟨x0⟩ : St58).Oper_.C_)]] []), (.int .u8 105, .fn (.func 36) [.agg [lsv (encI .u8) 1 ((⟨x0⟩ : St58).Oper_.I_), lsv (encI .u8) 1 ((⟨x0⟩ : St58).Oper_.F_), .int .i64 ((⟨x0⟩ : St58).Oper_.W_), .int .i64 ((⟨x0⟩ : St58).Oper_.C_)]] []), (.int .u8 118, .fn (.func 37) [.agg [lsv (encI .u8) 1 ((⟨x0⟩ : St58).Oper_.I_), lsv (encI .u8) 1 ((⟨x0⟩ : St58).Oper_.F_), .int .i64 ((⟨x0⟩ : St58).Oper_.W_), .int .i64 ((⟨x0⟩ : St58).Oper_.C_)]] []), (.int .u8 119, .fn (.func 38) [.agg [lsv (encI .u8) 1 ((⟨x0⟩ : St58).Oper_.I_), lsv (encI .u8) 1 ((⟨x0⟩ : St58).Oper_.F_), .int .i64 ((⟨x0⟩ : St58).Oper_.W_), .int .i64 ((⟨x0⟩ : St58).Oper_.C_)]] []), (.int .u8 102, .fn (.func 39) [.agg [lsv (encI .u8) 1 ((⟨x0⟩ : St58).Oper_.I_), lsv (encI .u8) 1 ((⟨x0⟩ : St58).Oper_.F_), .int .i64 ((⟨x0⟩ : St58).Oper_.W_), .int .i64 ((⟨x0⟩ : St58).Oper_.C_)]] []), (.int .u8 116, .fn (.func 40) [.agg [lsv (encI .u8) 1 ((⟨x0⟩ : St58).Oper_.I_), lsv (encI .u8) 1 ((⟨x0⟩ : St58).Oper_.F_), .int .i64 ((⟨x0⟩ : St58).Oper_.W_), .int .i64 ((⟨x0⟩ : St58).Oper_.C_)]] []), (.int .u8 99, .fn (.func 41) [.agg [lsv (encI .u8) 1 ((⟨x0⟩ : St58).Oper_.I_), lsv (encI .u8) 1 ((⟨x0⟩ : St58).Oper_.F_), .int .i64 ((⟨x0⟩ : St58).Oper_.W_), .int .i64 ((⟨x0⟩ : St58).Oper_.C_)]] []), (.int .u8 101, .fn (.func 41) [.agg [lsv (encI .u8) 1 ((⟨x0⟩ : St58).Oper_.I_), lsv (encI .u8) 1 ((⟨x0⟩ : St58).Oper_.F_), .int .i64 ((⟨x0⟩ : St58).Oper_.W_), .int .i64 ((⟨x0⟩ : St58).Oper_.C_)]] [])] 0) (tr2 := []) (by kernel_rfl) (by simp [hitC, missC, sameB, sameE, hn13]) ?_
      refine RJ.seg 5 [4, 5, 6, 7] (L2 := [(4, .nl), (5, .bool false), (6, .fn (.func 35) [.agg [lsv (encI .u8) 1 ((⟨x0⟩ : St58).Oper_.I_), lsv (encI .u8) 1 ((⟨x0⟩ : St58).Oper_.F_), .int .i64 ((⟨x0⟩ : St58).Oper_.W_), .int .i64 ((⟨x0⟩ : St58).Oper_.C_)]] []), (7, .bool true)]) (H2 := [.box [lsv (encI .u8) 1 x0.I_, lsv (encI .u8) 1 x0.F_, .int .i64 x0.W_, .int .i64 x0.C_], .map [(.int .u8 110, .fn (.func 35) [.agg [lsv (encI .u8) 1 ((⟨x0⟩ : St58).Oper_.I_), lsv (encI .u8) 1 ((⟨x0⟩ : St58).Oper_.F_), .int .i64 ((⟨x0⟩ : St58).Oper_.W_), .int .i64 ((⟨x0⟩ : St58).Oper_.C_)]] []), (.int .u8 105, .fn (.func 36) [.agg [lsv (encI .u8) 1 ((⟨x0⟩ : St58).Oper_.I_), lsv (encI .u8) 1 ((⟨x0⟩ : St58).Oper_.F_), .int .i64 ((⟨x0⟩ : St58).Oper_.W_), .int .i64 ((⟨x0⟩ : St58).Oper_.C_)]] []), (.int .u8 118, .fn (.func 37) [.agg [lsv (encI .u8) 1 ((⟨x0⟩ : St58).Oper_.I_), lsv (encI .u8) 1 ((⟨x0⟩ : St58).Oper_.F_), .int .i64 ((⟨x0⟩ : St58).Oper_.W_), .int .i64 ((⟨x0⟩ : St58).Oper_.C_)]] []), (.int .u8 119, .fn (.func 38) [.agg [lsv (encI .u8) 1 ((⟨x0⟩ : St58).Oper_.I_), lsv (encI .u8) 1 ((⟨x0⟩ : St58).Oper_.F_), .int .i64 ((⟨x0⟩ : St58).Oper_.W_), .int .i64 ((⟨x0⟩ : St58).Oper_.C_)]] []), (.int .u8 102, .fn (.func 39) [.agg [lsv (encI .u8) 1 ((⟨x0⟩ : St58).Oper_.I_), lsv (encI .u8) 1 ((⟨x0⟩ : St58).Oper_.F_), .int .i64 ((⟨x0⟩ : St58).Oper_.W_), .int .i64 ((⟨x0⟩ : St58).Oper_.C_)]] []), (.int .u8 116, .fn (.func 40) [.agg [lsv (encI .u8) 1 ((⟨x0⟩ : St58).Oper_.I_), lsv (encI .u8) 1 ((⟨x0⟩ : St58).Oper_.F_), .int .i64 ((⟨x0⟩ : St58).Oper_.W_), .int .i64 ((⟨x0⟩ : St58).Oper_.C_)]] []), (.int .u8 99, .fn (.func 41) [.agg [lsv (encI .u8) 1 ((⟨x0⟩ : St58).Oper_.I_), lsv (encI .u8) 1 ((⟨x0⟩ : St58).Oper_.F_), .int .i64 ((⟨x0⟩ : St58).Oper_.W_), .int .i64 ((⟨x0⟩ : St58).Oper_.C_)]] []), (.int .u8 101, .fn (.func 41) [.agg [lsv (encI .u8) 1 ((⟨x0⟩ : St58).Oper_.I_), lsv (encI .u8) 1 ((⟨x0⟩ : St58).Oper_.F_), .int .i64 ((⟨x0⟩ : St58).Oper_.W_), .int .i64 ((⟨x0⟩ : St58).Oper_.C_)]] [])]]) (by kernel_rfl) ?_
      refine RJ.end (by kernel_rfl) ?_
      refine PJ.next ?_
      refine K.seq (by kernel_rfl) ?_
      refine K.seq (by kernel_rfl) ?_
      refine K.region (by kernel_rfl) ?_
      refine RJ.seg 2 [4, 5, 6, 20] (L2 := [(4, .nl), (5, .bool false), (6, .fn (.func 35) [.agg [lsv (encI .u8) 1 ((⟨x0⟩ : St58).Oper_.I_), lsv (encI .u8) 1 ((⟨x0⟩ : St58).Oper_.F_), .int .i64 ((⟨x0⟩ : St58).Oper_.W_), .int .i64 ((⟨x0⟩ : St58).Oper_.C_)]] []), (20, .bool false)]) (H2 := [.box [lsv (encI .u8) 1 x0.I_, lsv (encI .u8) 1 x0.F_, .int .i64 x0.W_, .int .i64 x0.C_], .map [(.int .u8 110, .fn (.func 35) [.agg [lsv (encI .u8) 1 ((⟨x0⟩ : St58).Oper_.I_), lsv (encI .u8) 1 ((⟨x0⟩ : St58).Oper_.F_), .int .i64 ((⟨x0⟩ : St58).Oper_.W_), .int .i64 ((⟨x0⟩ : St58).Oper_.C_)]] []), (.int .u8 105, .fn (.func 36) [.agg [lsv (encI .u8) 1 ((⟨x0⟩ : St58).Oper_.I_), lsv (encI .u8) 1 ((⟨x0⟩ : St58).Oper_.F_), .int .i64 ((⟨x0⟩ : St58).Oper_.W_), .int .i64 ((⟨x0⟩ : St58).Oper_.C_)]] []), (.int .u8 118, .fn (.func 37) [.agg [lsv (encI .u8) 1 ((⟨x0⟩ : St58).Oper_.I_), lsv (encI .u8) 1 ((⟨x0⟩ : St58).Oper_.F_), .int .i64 ((⟨x0⟩ : St58).Oper_.W_), .int .i64 ((⟨x0⟩ : St58).Oper_.C_)]] []), (.int .u8 119, .fn (.func 38) [.agg [lsv (encI .u8) 1 ((⟨x0⟩ : St58).Oper_.I_), lsv (encI .u8) 1 ((⟨x0⟩ : St58).Oper_.F_), .int .i64 ((⟨x0⟩ : St58).Oper_.W_), .int .i64 ((⟨x0⟩ : St58).Oper_.C_)]] []), (.int .u8 102, .fn (.func 39) [.agg [lsv (encI .u8) 1 ((⟨x0⟩ : St58).Oper_.I_), lsv (encI .u8) 1 ((⟨x0⟩ : St58).Oper_.F_), .int .i64 ((⟨x0⟩ : St58).Oper_.W_), .int .i64 ((⟨x0⟩ : St58).Oper_.C_)]] []), (.int .u8 116, .fn (.func 40) [.agg [lsv (encI .u8) 1 ((⟨x0⟩ : St58).Oper_.I_), lsv (encI .u8) 1 ((⟨x0⟩ : St58).Oper_.F_), .int .i64 ((⟨x0⟩ : St58).Oper_.W_), .int .i64 ((⟨x0⟩ : St58).Oper_.C_)]] []), (.int .u8 99, .fn (.func 41) [.agg [lsv (encI .u8) 1 ((⟨x0⟩ : St58).Oper_.I_), lsv (encI .u8) 1 ((⟨x0⟩ : St58).Oper_.F_), .int .i64 ((⟨x0⟩ : St58).Oper_.W_), .int .i64 ((⟨x0⟩ : St58).Oper_.C_)]] []), (.int .u8 101, .fn (.func 41) [.agg [lsv (encI .u8) 1 ((⟨x0⟩ : St58).Oper_.I_), lsv (encI .u8) 1 ((⟨x0⟩ : St58).Oper_.F_), .int .i64 ((⟨x0⟩ : St58).Oper_.W_), .int .i64 ((⟨x0⟩ : St58).Oper_.C_)]] [])]]) (by kernel_rfl) ?_
      refine RJ.end (by kernel_rfl) ?_
      refine PJ.next ?_
      refine K.condF (by kernel_rfl) ?_
      refine K.skip (by kernel_rfl) ?_
      refine PJ.next ?_
      refine K.seq (by kernel_rfl) ?_
      refine K.region (by kernel_rfl) ?_
      refine RJ.seg 1 [4, 5, 21] (L2 := [(4, .nl), (5, .bool false), (21, .fn (.func 35) [.agg [lsv (encI .u8) 1 ((⟨x0⟩ : St58).Oper_.I_), lsv (encI .u8) 1 ((⟨x0⟩ : St58).Oper_.F_), .int .i64 ((⟨x0⟩ : St58).Oper_.W_), .int .i64 ((⟨x0⟩ : St58).Oper_.C_)]] [])]) (H2 := [.box [lsv (encI .u8) 1 x0.I_, lsv (encI .u8) 1 x0.F_, .int .i64 x0.W_, .int .i64 x0.C_], .map [(.int .u8 110, .fn (.func 35) [.agg [lsv (encI .u8) 1 ((⟨x0⟩ : St58).Oper_.I_), lsv (encI .u8) 1 ((⟨x0⟩ : St58).Oper_.F_), .int .i64 ((⟨x0⟩ : St58).Oper_.W_), .int .i64 ((⟨x0⟩ : St58).Oper_.C_)]] []), (.int .u8 105, .fn (.func 36) [.agg [lsv (encI .u8) 1 ((⟨x0⟩ : St58).Oper_.I_), lsv (encI .u8) 1 ((⟨x0⟩ : St58).Oper_.F_), .int .i64 ((⟨x0⟩ : St58).Oper_.W_), .int .i64 ((⟨x0⟩ : St58).Oper_.C_)]] []), (.int .u8 118, .fn (.func 37) [.agg [lsv (encI .u8) 1 ((⟨x0⟩ : St58).Oper_.I_), lsv (encI .u8) 1 ((⟨x0⟩ : St58).Oper_.F_), .int .i64 ((⟨x0⟩ : St58).Oper_.W_), .int .i64 ((⟨x0⟩ : St58).Oper_.C_)]] []), (.int .u8 119, .fn (.func 38) [.agg [lsv (encI .u8) 1 ((⟨x0⟩ : St58).Oper_.I_), lsv (encI .u8) 1 ((⟨x0⟩ : St58).Oper_.F_), .int .i64 ((⟨x0⟩ : St58).Oper_.W_), .int .i64 ((⟨x0⟩ : St58).Oper_.C_)]] []), (.int .u8 102, .fn (.func 39) [.agg [lsv (encI .u8) 1 ((⟨x0⟩ : St58).Oper_.I_), lsv (encI .u8) 1 ((⟨x0⟩ : St58).Oper_.F_), .int .i64 ((⟨x0⟩ : St58).Oper_.W_), .int .i64 ((⟨x0⟩ : St58).Oper_.C_)]] []), (.int .u8 116, .fn (.func 40) [.agg [lsv (encI .u8) 1 ((⟨x0⟩ : St58).Oper_.I_), lsv (encI .u8) 1 ((⟨x0⟩ : St58).Oper_.F_), .int .i64 ((⟨x0⟩ : St58).Oper_.W_), .int .i64 ((⟨x0⟩ : St58).Oper_.C_)]] []), (.int .u8 99, .fn (.func 41) [.agg [lsv (encI .u8) 1 ((⟨x0⟩ : St58).Oper_.I_), lsv (encI .u8) 1 ((⟨x0⟩ : St58).Oper_.F_), .int .i64 ((⟨x0⟩ : St58).Oper_.W_), .int .i64 ((⟨x0⟩ : St58).Oper_.C_)]] []), (.int .u8 101, .fn (.func 41) [.agg [lsv (encI .u8) 1 ((⟨x0⟩ : St58).Oper_.I_), lsv (encI .u8) 1 ((⟨x0⟩ : St58).Oper_.F_), .int .i64 ((⟨x0⟩ : St58).Oper_.W_), .int .i64 ((⟨x0⟩ : St58).Oper_.C_)]] [])]]) (by kernel_rfl) ?_
      obtain ⟨y14, hy15, h16⟩ := bindS h11
      refine RJ.call0 (d := (some 22)) (f := 35) (args := [.agg [lsv (encI .u8) 1 ((⟨x0⟩ : St58).Oper_.I_), lsv (encI .u8) 1 ((⟨x0⟩ : St58).Oper_.F_), .int .i64 ((⟨x0⟩ : St58).Oper_.W_), .int .i64 ((⟨x0⟩ : St58).Oper_.C_)]]) (v := .tup [lsv (encI .u8) 1 y14.1, .bool y14.2]) (tr2 := []) (by kernel_rfl) (by kernel_rfl) (.cons (Le.refl _) .nil) (oper_asked__number_ok hy15) (by kernel_rfl) ?_
      refine RJ.seg 4 [4, 5] (L2 := [(4, lsv (encI .u8) 1 y14.1), (5, .bool y14.2)]) (H2 := [.box [lsv (encI .u8) 1 x0.I_, lsv (encI .u8) 1 x0.F_, .int .i64 x0.W_, .int .i64 x0.C_], .map [(.int .u8 110, .fn (.func 35) [.agg [lsv (encI .u8) 1 ((⟨x0⟩ : St58).Oper_.I_), lsv (encI .u8) 1 ((⟨x0⟩ : St58).Oper_.F_), .int .i64 ((⟨x0⟩ : St58).Oper_.W_), .int .i64 ((⟨x0⟩ : St58).Oper_.C_)]] []), (.int .u8 105, .fn (.func 36) [.agg [lsv (encI .u8) 1 ((⟨x0⟩ : St58).Oper_.I_), lsv (encI .u8) 1 ((⟨x0⟩ : St58).Oper_.F_), .int .i64 ((⟨x0⟩ : St58).Oper_.W_), .int .i64 ((⟨x0⟩ : St58).Oper_.C_)]] []), (.int .u8 118, .fn (.func 37) [.agg [lsv (encI .u8) 1 ((⟨x0⟩ : St58).Oper_.I_), lsv (encI .u8) 1 ((⟨x0⟩ : St58).Oper_.F_), .int .i64 ((⟨x0⟩ : St58).Oper_.W_), .int .i64 ((⟨x0⟩ : St58).Oper_.C_)]] []), (.int .u8 119, .fn (.func 38) [.agg [lsv (encI .u8) 1 ((⟨x0⟩ : St58).Oper_.I_), lsv (encI .u8) 1 ((⟨x0⟩ : St58).Oper_.F_), .int .i64 ((⟨x0⟩ : St58).Oper_.W_), .int .i64 ((⟨x0⟩ : St58).Oper_.C_)]] []), (.int .u8 102, .fn (.func 39) [.agg [lsv (encI .u8) 1 ((⟨x0⟩ : St58).Oper_.I_), lsv (encI .u8) 1 ((⟨x0⟩ : St58).Oper_.F_), .int .i64 ((⟨x0⟩ : St58).Oper_.W_), .int .i64 ((⟨x0⟩ : St58).Oper_.C_)]] []), (.int .u8 116, .fn (.func 40) [.agg [lsv (encI .u8) 1 ((⟨x0⟩ : St58).Oper_.I_), lsv (encI .u8) 1 ((⟨x0⟩ : St58).Oper_.F_), .int .i64 ((⟨x0⟩ : St58).Oper_.W_), .int .i64 ((⟨x0⟩ : St58).Oper_.C_)]] []), (.int .u8 99, .fn (.func 41) [.agg [lsv (encI .u8) 1 ((⟨x0⟩ : St58).Oper_.I_), lsv (encI .u8) 1 ((⟨x0⟩ : St58).Oper_.F_), .int .i64 ((⟨x0⟩ : St58).Oper_.W_), .int .i64 ((⟨x0⟩ : St58).Oper_.C_)]] []), (.int .u8 101, .fn (.func 41) [.agg [lsv (encI .u8) 1 ((⟨x0⟩ : St58).Oper_.I_), lsv (encI .u8) 1 ((⟨x0⟩ : St58).Oper_.F_), .int .i64 ((⟨x0⟩ : St58).Oper_.W_), .int .i64 ((⟨x0⟩ : St58).Oper_.C_)]] [])]]) (by kernel_rfl) ?_
      refine RJ.end (by kernel_rfl) ?_
      refine PJ.next ?_
      refine K.ret (by kernel_rfl) ?_
      obtain rfl := Option.some.inj h16
      exact K.ret0 (.inr rfl) hFn hFH hFD (by kernel_rfl) (by kernel_rfl) (by kernel_rfl)

def oper_Mod (x0 : List Int) (x1 : Int) : Option (Int) :=
  (Option.bind (Option.bind (bif (decide (x1 < 1)) then (some true) else (some (decide (x1 > 1000000000)))) fun (s24 : Bool) => (bif s24 then (some (.inr 0)) else (some (.inl ())))) (joinX fun (s16 : Unit) => (Option.bind (loopN (fun (s65 : Int × Int) => (bif (decide (s65.2 < (x0.length : Int))) then (bif inR s65.2 x0.length then (bif nz x1 then (some (.inl ((Int.tmod ((IntKind.wrap .i64 ((IntKind.wrap .i64 (s65.1 * 10)) + (IntKind.wrap .i64 (nth x0 s65.2))))) x1), (IntKind.wrap .i64 (s65.2 + 1))))) else none) else none) else (some (.inr s65.1)))) big (0, 0)) fun (s60 : Int) => (some s60))))
theorem oper_Mod_ok {x0 : List Int} {x1 : Int} {r : Int} (h : oper_Mod x0 x1 = some r) : SC Try.prog 22 [lsv (encI .u8) 1 x0, .int .i64 x1] [] (.int .i64 r) [] := by
  refine K.fn (fn := Try.f22) (by kernel_rfl) (by kernel_rfl) (by kernel_rfl) (by kernel_rfl) (by kernel_rfl) (fun F hFn hFH hFD => ?_)
  unfold oper_Mod at h
  refine K.seq (by kernel_rfl) ?_
  refine K.region (by kernel_rfl) ?_
  refine RJ.seg 1 [0, 1, 4] (L2 := [(0, lsv (encI .u8) 1 x0), (1, .int .i64 x1), (4, .int .i64 0)]) (H2 := []) (by kernel_rfl) ?_
  refine RJ.end (by kernel_rfl) ?_
  refine PJ.next ?_
  obtain ⟨y17, hy18, h19⟩ := bindS h
  refine K.cutX (by kernel_rfl) (fun (s16 : Unit) => ([(0, lsv (encI .u8) 1 x0), (1, .int .i64 x1), (4, .int .i64 0)], [])) y17 ?_ (fun s16 hs => ?_)
  · obtain ⟨s24, hy26, h28⟩ := bindS hy18
    refine K.cutN (by kernel_rfl) (fun (s24 : Bool) => ([(0, lsv (encI .u8) 1 x0), (1, .int .i64 x1), (4, .int .i64 0), (13, .bool s24)], [])) s24 ?_ ?_
    · refine K.region (by kernel_rfl) ?_
      refine RJ.seg 3 [0, 1, 4, 10] (L2 := [(0, lsv (encI .u8) 1 x0), (1, .int .i64 x1), (4, .int .i64 0), (10, .bool (decide (x1 < 1)))]) (H2 := []) (by kernel_rfl) ?_
      refine RJ.caseB 10 (b := (decide (x1 < 1))) (by kernel_rfl) (fun hb29 => ?_) (fun hb29 => ?_)
      · have h30 := condT hb29 hy26
        refine RJ.seg 3 [0, 1, 4, 13] (L2 := [(0, lsv (encI .u8) 1 x0), (1, .int .i64 x1), (4, .int .i64 0), (13, .bool true)]) (H2 := []) (by kernel_rfl) ?_
        refine RJ.end (by kernel_rfl) ?_
        obtain rfl := Option.some.inj h30
        exact PJ.cutN [0, 1, 4, 13] (by kernel_rfl) (by kernel_rfl)
      · have h31 := condF hb29 hy26
        refine RJ.seg 3 [0, 1, 4, 13] (L2 := [(0, lsv (encI .u8) 1 x0), (1, .int .i64 x1), (4, .int .i64 0), (13, .bool (decide (x1 > 1000000000)))]) (H2 := []) (by kernel_rfl) ?_
        refine RJ.end (by kernel_rfl) ?_
        obtain rfl := Option.some.inj h31
        exact PJ.cutN [0, 1, 4, 13] (by kernel_rfl) (by kernel_rfl)
    · refine J.caseB 13 (b := s24) (by kernel_rfl) (fun hb32 => ?_) (fun hb32 => ?_)
      · have h33 := condT hb32 h28
        refine K.condT (by kernel_rfl) ?_
        refine K.seq (by kernel_rfl) ?_
        refine K.region (by kernel_rfl) ?_
        refine RJ.seg 1 [0, 1, 4] (L2 := [(0, lsv (encI .u8) 1 x0), (1, .int .i64 x1), (4, .int .i64 0)]) (H2 := []) (by kernel_rfl) ?_
        refine RJ.end (by kernel_rfl) ?_
        refine PJ.next ?_
        refine K.ret (by kernel_rfl) ?_
        obtain rfl := Option.some.inj h33
        have h35 := joinX_inr h19
        refine PJ.cutXr (fun e => nomatch e) ?_
        obtain rfl := Option.some.inj h35
        exact K.ret0 (.inr rfl) hFn hFH hFD (by kernel_rfl) (by kernel_rfl) (by kernel_rfl)
      · have h34 := condF hb32 h28
        refine K.condF (by kernel_rfl) ?_
        refine K.skip (by kernel_rfl) ?_
        obtain rfl := Option.some.inj h34
        exact PJ.cutXl [0, 1, 4] (by kernel_rfl) (by kernel_rfl)
  · subst hs
    have h20 := joinX_inl h19
    refine K.seq (by kernel_rfl) ?_
    refine K.region (by kernel_rfl) ?_
    refine RJ.seg 1 [0, 1, 4, 5] (L2 := [(0, lsv (encI .u8) 1 x0), (1, .int .i64 x1), (4, .int .i64 0), (5, .int .i64 0)]) (H2 := []) (by kernel_rfl) ?_
    refine RJ.end (by kernel_rfl) ?_
    refine PJ.next ?_
    obtain ⟨s60, hy62, h64⟩ := bindS h20
    refine K.cutN (by kernel_rfl) (fun (s60 : Int) => ([(4, .int .i64 0), (5, .int .i64 s60)], [])) s60 ?_ ?_
    · refine K.seq (by kernel_rfl) ?_
      refine K.region (by kernel_rfl) ?_
      refine RJ.seg 3 [1, 4, 5, 14, 15, 16] (L2 := [(1, .int .i64 x1), (4, .int .i64 0), (5, .int .i64 0), (14, lsv (encI .u8) 1 x0), (15, .int .i64 (x0.length : Int)), (16, .int .i64 0)]) (H2 := []) (by kernel_rfl) ?_
      refine RJ.end (by kernel_rfl) ?_
      refine PJ.next ?_
      refine K.block 0 (by kernel_rfl) ?_
      refine K.loop (by kernel_rfl) (fun (s65 : Int × Int) => ([(1, .int .i64 x1), (4, .int .i64 0), (5, .int .i64 s65.1), (14, lsv (encI .u8) 1 x0), (15, .int .i64 (x0.length : Int)), (16, .int .i64 s65.2)], [])) hy62 [1, 4, 5, 14, 15, 16] (by kernel_rfl) (by kernel_rfl) (fun s65 x81 hs80 => ?_)
      refine K.seq (by kernel_rfl) ?_
      refine K.region (by kernel_rfl) ?_
      refine RJ.seg 1 [1, 4, 5, 14, 15, 16, 17] (L2 := [(1, .int .i64 x1), (4, .int .i64 0), (5, .int .i64 s65.1), (14, lsv (encI .u8) 1 x0), (15, .int .i64 (x0.length : Int)), (16, .int .i64 s65.2), (17, .bool ((decide (s65.2 < (x0.length : Int)))))]) (H2 := []) (by kernel_rfl) ?_
      refine RJ.end (by kernel_rfl) ?_
      refine PJ.next ?_
      refine K.seq (by kernel_rfl) ?_
      refine J.caseB 17 (b := (decide (s65.2 < (x0.length : Int)))) (by kernel_rfl) (fun hb82 => ?_) (fun hb82 => ?_)
      · have h83 := condT hb82 hs80
        refine K.condT (by kernel_rfl) ?_
        refine K.skip (by kernel_rfl) ?_
        refine PJ.next ?_
        refine K.seq (by kernel_rfl) ?_
        refine K.block 1 (by kernel_rfl) ?_
        refine K.seq (by kernel_rfl) ?_
        refine K.region (by kernel_rfl) ?_
        obtain ⟨hm, h85⟩ := asrt h83
        refine RJ.rel (d := (some 18)) (ef := ⟨.ep (((x0.flatMap (encI .u8)).drop ((s65.2 : Int).toNat * 1)).take 1), [], []⟩) (ef' := ⟨.ep ((encI .u8) (nth x0 s65.2)), [], []⟩) (c := inR s65.2 x0.length) (tr2 := []) (H2 := []) (by kernel_rfl) hm (fun hc => N.idx (encI_len .u8) hc) (by kernel_rfl) ?_
        refine RJ.seg 2 [1, 4, 5, 7, 14, 15, 16] (L2 := [(1, .int .i64 x1), (4, .int .i64 0), (5, .int .i64 s65.1), (7, .int .u8 (nth x0 s65.2)), (14, lsv (encI .u8) 1 x0), (15, .int .i64 (x0.length : Int)), (16, .int .i64 s65.2)]) (H2 := []) (by kernel_rfl) ?_
        refine RJ.end (by kernel_rfl) ?_
        refine PJ.next ?_
        refine K.region (by kernel_rfl) ?_
        refine RJ.seg 6 [1, 4, 5, 14, 15, 16, 24, 25] (L2 := [(1, .int .i64 x1), (4, .int .i64 0), (5, .int .i64 s65.1), (14, lsv (encI .u8) 1 x0), (15, .int .i64 (x0.length : Int)), (16, .int .i64 s65.2), (24, .int .i64 ((IntKind.wrap .i64 ((IntKind.wrap .i64 (s65.1 * 10)) + (IntKind.wrap .i64 (nth x0 s65.2)))))), (25, .int .i64 x1)]) (H2 := []) (by kernel_rfl) ?_
        obtain ⟨hm, h86⟩ := asrt h85
        refine RJ.rel (d := (some 26)) (ef := ⟨.int .i64 (Int.tmod ((IntKind.wrap .i64 ((IntKind.wrap .i64 (s65.1 * 10)) + (IntKind.wrap .i64 (nth x0 s65.2))))) x1), [], []⟩) (ef' := ⟨.int .i64 (Int.tmod ((IntKind.wrap .i64 ((IntKind.wrap .i64 (s65.1 * 10)) + (IntKind.wrap .i64 (nth x0 s65.2))))) x1), [], []⟩) (c := nz x1) (tr2 := []) (H2 := []) (by kernel_rfl) hm (fun hc => rfl) (by kernel_rfl) ?_
        refine RJ.seg 1 [1, 4, 5, 14, 15, 16] (L2 := [(1, .int .i64 x1), (4, .int .i64 0), (5, .int .i64 ((Int.tmod ((IntKind.wrap .i64 ((IntKind.wrap .i64 (s65.1 * 10)) + (IntKind.wrap .i64 (nth x0 s65.2))))) x1))), (14, lsv (encI .u8) 1 x0), (15, .int .i64 (x0.length : Int)), (16, .int .i64 s65.2)]) (H2 := []) (by kernel_rfl) ?_
        refine RJ.end (by kernel_rfl) ?_
        refine PJ.blockNormal ?_
        refine PJ.next ?_
        refine K.region (by kernel_rfl) ?_
        refine RJ.seg 2 [1, 4, 5, 14, 15, 16] (L2 := [(1, .int .i64 x1), (4, .int .i64 0), (5, .int .i64 ((Int.tmod ((IntKind.wrap .i64 ((IntKind.wrap .i64 (s65.1 * 10)) + (IntKind.wrap .i64 (nth x0 s65.2))))) x1))), (14, lsv (encI .u8) 1 x0), (15, .int .i64 (x0.length : Int)), (16, .int .i64 (IntKind.wrap .i64 (s65.2 + 1)))]) (H2 := []) (by kernel_rfl) ?_
        refine RJ.end (by kernel_rfl) ?_
        obtain rfl := Option.some.inj h86
        exact PJ.loopNext [1, 4, 5, 14, 15, 16] (by kernel_rfl) (by kernel_rfl)
      · have h84 := condF hb82 hs80
        refine K.condF (by kernel_rfl) ?_
        refine K.exit 0 (by kernel_rfl) ?_
        refine PJ.passExit ?_
        obtain rfl := Option.some.inj h84
        refine PJ.loopOut (fun e => nomatch e) (fun he88 => ?_)
        have h87 := congrArg some he88
        refine PJ.blockOut ?_
        obtain rfl := Option.some.inj h87
        exact PJ.cutN [4, 5] (by kernel_rfl) (by kernel_rfl)
    · refine K.seq (by kernel_rfl) ?_
      refine K.region (by kernel_rfl) ?_
      refine RJ.seg 2 [4] (L2 := [(4, .int .i64 s60)]) (H2 := []) (by kernel_rfl) ?_
      refine RJ.end (by kernel_rfl) ?_
      refine PJ.next ?_
      refine K.ret (by kernel_rfl) ?_
      obtain rfl := Option.some.inj h64
      exact K.ret0 (.inr rfl) hFn hFH hFD (by kernel_rfl) (by kernel_rfl) (by kernel_rfl)

def oper_In (x0 : List Int) (x1 : Int) (x2 : Int) : Option (Bool) :=
  (Option.bind (oper_strip x0) fun y1 => (Option.bind (Option.bind (bif (decide ((y1.length : Int) > 19)) then (some true) else (some (decide (x2 < 0)))) fun (s27 : Bool) => (bif s27 then (some (.inr false)) else (some (.inl ())))) (joinX fun (s19 : Unit) => (Option.bind (loopN (fun (s65 : Int × Int) => (bif (decide (s65.2 < (y1.length : Int))) then (bif inR s65.2 y1.length then (some (.inl ((IntKind.wrap .u64 ((IntKind.wrap .u64 (s65.1 * 10)) + (IntKind.wrap .u64 (nth y1 s65.2)))), (IntKind.wrap .i64 (s65.2 + 1))))) else none) else (some (.inr s65.1)))) big (0, 0)) fun (s60 : Int) => (Option.bind (bif (decide (s60 ≤ (IntKind.wrap .u64 x2))) then (some ((decide (s60 ≥ (IntKind.wrap .u64 (maxI x1 0)))))) else (some false)) fun (s89 : Bool) => (some s89))))))
theorem oper_In_ok {x0 : List Int} {x1 : Int} {x2 : Int} {r : Bool} (h : oper_In x0 x1 x2 = some r) : SC Try.prog 24 [lsv (encI .u8) 1 x0, .int .i64 x1, .int .i64 x2] [] (.bool r) [] := by
  refine K.fn (fn := Try.f24) (by kernel_rfl) (by kernel_rfl) (by kernel_rfl) (by kernel_rfl) (by kernel_rfl) (fun F hFn hFH hFD => ?_)
  unfold oper_In at h
  refine K.seq (by kernel_rfl) ?_
  refine K.region (by kernel_rfl) ?_
  refine RJ.seg 1 [0, 1, 2, 6] (L2 := [(0, lsv (encI .u8) 1 x0), (1, .int .i64 x1), (2, .int .i64 x2), (6, .bool false)]) (H2 := []) (by kernel_rfl) ?_
  refine RJ.end (by kernel_rfl) ?_
  refine PJ.next ?_
  refine K.seq (by kernel_rfl) ?_
  refine K.region (by kernel_rfl) ?_
  refine RJ.seg 1 [0, 1, 2, 6, 10] (L2 := [(0, lsv (encI .u8) 1 x0), (1, .int .i64 x1), (2, .int .i64 x2), (6, .bool false), (10, lsv (encI .u8) 1 x0)]) (H2 := []) (by kernel_rfl) ?_
  obtain ⟨y1, hy2, h3⟩ := bindS h
  refine RJ.call0 (d := (some 11)) (f := 27) (args := [lsv (encI .u8) 1 x0]) (v := lsv (encI .u8) 1 y1) (tr2 := []) (by kernel_rfl) (by kernel_rfl) (.cons (Le.refl _) .nil) (oper_strip_ok hy2) (by kernel_rfl) ?_
  refine RJ.seg 1 [0, 1, 2, 6] (L2 := [(0, lsv (encI .u8) 1 y1), (1, .int .i64 x1), (2, .int .i64 x2), (6, .bool false)]) (H2 := []) (by kernel_rfl) ?_
  refine RJ.end (by kernel_rfl) ?_
  refine PJ.next ?_
  obtain ⟨y20, hy21, h22⟩ := bindS h3
  refine K.cutX (by kernel_rfl) (fun (s19 : Unit) => ([(0, lsv (encI .u8) 1 y1), (1, .int .i64 x1), (2, .int .i64 x2), (6, .bool false)], [])) y20 ?_ (fun s19 hs => ?_)
  · obtain ⟨s27, hy29, h31⟩ := bindS hy21
    refine K.cutN (by kernel_rfl) (fun (s27 : Bool) => ([(0, lsv (encI .u8) 1 y1), (1, .int .i64 x1), (2, .int .i64 x2), (6, .bool false), (18, .bool s27)], [])) s27 ?_ ?_
    · refine K.region (by kernel_rfl) ?_
      refine RJ.seg 4 [0, 1, 2, 6, 15] (L2 := [(0, lsv (encI .u8) 1 y1), (1, .int .i64 x1), (2, .int .i64 x2), (6, .bool false), (15, .bool ((decide ((y1.length : Int) > 19))))]) (H2 := []) (by kernel_rfl) ?_
      refine RJ.caseB 15 (b := (decide ((y1.length : Int) > 19))) (by kernel_rfl) (fun hb32 => ?_) (fun hb32 => ?_)
      · have h33 := condT hb32 hy29
        refine RJ.seg 3 [0, 1, 2, 6, 18] (L2 := [(0, lsv (encI .u8) 1 y1), (1, .int .i64 x1), (2, .int .i64 x2), (6, .bool false), (18, .bool true)]) (H2 := []) (by kernel_rfl) ?_
        refine RJ.end (by kernel_rfl) ?_
        obtain rfl := Option.some.inj h33
        exact PJ.cutN [0, 1, 2, 6, 18] (by kernel_rfl) (by kernel_rfl)
      · have h34 := condF hb32 hy29
        refine RJ.seg 3 [0, 1, 2, 6, 18] (L2 := [(0, lsv (encI .u8) 1 y1), (1, .int .i64 x1), (2, .int .i64 x2), (6, .bool false), (18, .bool (decide (x2 < 0)))]) (H2 := []) (by kernel_rfl) ?_
        refine RJ.end (by kernel_rfl) ?_
        obtain rfl := Option.some.inj h34
        exact PJ.cutN [0, 1, 2, 6, 18] (by kernel_rfl) (by kernel_rfl)
    · refine J.caseB 18 (b := s27) (by kernel_rfl) (fun hb35 => ?_) (fun hb35 => ?_)
      · have h36 := condT hb35 h31
        refine K.condT (by kernel_rfl) ?_
        refine K.seq (by kernel_rfl) ?_
        refine K.region (by kernel_rfl) ?_
        refine RJ.seg 1 [0, 1, 2, 6] (L2 := [(0, lsv (encI .u8) 1 y1), (1, .int .i64 x1), (2, .int .i64 x2), (6, .bool false)]) (H2 := []) (by kernel_rfl) ?_
        refine RJ.end (by kernel_rfl) ?_
        refine PJ.next ?_
        refine K.ret (by kernel_rfl) ?_
        obtain rfl := Option.some.inj h36
        have h38 := joinX_inr h22
        refine PJ.cutXr (fun e => nomatch e) ?_
        obtain rfl := Option.some.inj h38
        exact K.ret0 (.inr rfl) hFn hFH hFD (by kernel_rfl) (by kernel_rfl) (by kernel_rfl)
      · have h37 := condF hb35 h31
        refine K.condF (by kernel_rfl) ?_
        refine K.skip (by kernel_rfl) ?_
        obtain rfl := Option.some.inj h37
        exact PJ.cutXl [0, 1, 2, 6] (by kernel_rfl) (by kernel_rfl)
  · subst hs
    have h23 := joinX_inl h22
    refine K.seq (by kernel_rfl) ?_
    refine K.region (by kernel_rfl) ?_
    refine RJ.seg 1 [0, 1, 2, 6, 7] (L2 := [(0, lsv (encI .u8) 1 y1), (1, .int .i64 x1), (2, .int .i64 x2), (6, .bool false), (7, .int .u64 0)]) (H2 := []) (by kernel_rfl) ?_
    refine RJ.end (by kernel_rfl) ?_
    refine PJ.next ?_
    obtain ⟨s60, hy62, h64⟩ := bindS h23
    refine K.cutN (by kernel_rfl) (fun (s60 : Int) => ([(1, .int .i64 x1), (2, .int .i64 x2), (6, .bool false), (7, .int .u64 s60)], [])) s60 ?_ ?_
    · refine K.seq (by kernel_rfl) ?_
      refine K.region (by kernel_rfl) ?_
      refine RJ.seg 3 [1, 2, 6, 7, 19, 20, 21] (L2 := [(1, .int .i64 x1), (2, .int .i64 x2), (6, .bool false), (7, .int .u64 0), (19, lsv (encI .u8) 1 y1), (20, .int .i64 (y1.length : Int)), (21, .int .i64 0)]) (H2 := []) (by kernel_rfl) ?_
      refine RJ.end (by kernel_rfl) ?_
      refine PJ.next ?_
      refine K.block 0 (by kernel_rfl) ?_
      refine K.loop (by kernel_rfl) (fun (s65 : Int × Int) => ([(1, .int .i64 x1), (2, .int .i64 x2), (6, .bool false), (7, .int .u64 s65.1), (19, lsv (encI .u8) 1 y1), (20, .int .i64 (y1.length : Int)), (21, .int .i64 s65.2)], [])) hy62 [1, 2, 6, 7, 19, 20, 21] (by kernel_rfl) (by kernel_rfl) (fun s65 x79 hs78 => ?_)
      refine K.seq (by kernel_rfl) ?_
      refine K.region (by kernel_rfl) ?_
      refine RJ.seg 1 [1, 2, 6, 7, 19, 20, 21, 22] (L2 := [(1, .int .i64 x1), (2, .int .i64 x2), (6, .bool false), (7, .int .u64 s65.1), (19, lsv (encI .u8) 1 y1), (20, .int .i64 (y1.length : Int)), (21, .int .i64 s65.2), (22, .bool ((decide (s65.2 < (y1.length : Int)))))]) (H2 := []) (by kernel_rfl) ?_
      refine RJ.end (by kernel_rfl) ?_
      refine PJ.next ?_
      refine K.seq (by kernel_rfl) ?_
      refine J.caseB 22 (b := (decide (s65.2 < (y1.length : Int)))) (by kernel_rfl) (fun hb80 => ?_) (fun hb80 => ?_)
      · have h81 := condT hb80 hs78
        refine K.condT (by kernel_rfl) ?_
        refine K.skip (by kernel_rfl) ?_
        refine PJ.next ?_
        refine K.seq (by kernel_rfl) ?_
        refine K.block 1 (by kernel_rfl) ?_
        refine K.seq (by kernel_rfl) ?_
        refine K.region (by kernel_rfl) ?_
        obtain ⟨hm, h83⟩ := asrt h81
        refine RJ.rel (d := (some 23)) (ef := ⟨.ep (((y1.flatMap (encI .u8)).drop ((s65.2 : Int).toNat * 1)).take 1), [], []⟩) (ef' := ⟨.ep ((encI .u8) (nth y1 s65.2)), [], []⟩) (c := inR s65.2 y1.length) (tr2 := []) (H2 := []) (by kernel_rfl) hm (fun hc => N.idx (encI_len .u8) hc) (by kernel_rfl) ?_
        refine RJ.seg 2 [1, 2, 6, 7, 9, 19, 20, 21] (L2 := [(1, .int .i64 x1), (2, .int .i64 x2), (6, .bool false), (7, .int .u64 s65.1), (9, .int .u8 (nth y1 s65.2)), (19, lsv (encI .u8) 1 y1), (20, .int .i64 (y1.length : Int)), (21, .int .i64 s65.2)]) (H2 := []) (by kernel_rfl) ?_
        refine RJ.end (by kernel_rfl) ?_
        refine PJ.next ?_
        refine K.region (by kernel_rfl) ?_
        refine RJ.seg 6 [1, 2, 6, 7, 19, 20, 21] (L2 := [(1, .int .i64 x1), (2, .int .i64 x2), (6, .bool false), (7, .int .u64 ((IntKind.wrap .u64 ((IntKind.wrap .u64 (s65.1 * 10)) + (IntKind.wrap .u64 (nth y1 s65.2)))))), (19, lsv (encI .u8) 1 y1), (20, .int .i64 (y1.length : Int)), (21, .int .i64 s65.2)]) (H2 := []) (by kernel_rfl) ?_
        refine RJ.end (by kernel_rfl) ?_
        refine PJ.blockNormal ?_
        refine PJ.next ?_
        refine K.region (by kernel_rfl) ?_
        refine RJ.seg 2 [1, 2, 6, 7, 19, 20, 21] (L2 := [(1, .int .i64 x1), (2, .int .i64 x2), (6, .bool false), (7, .int .u64 ((IntKind.wrap .u64 ((IntKind.wrap .u64 (s65.1 * 10)) + (IntKind.wrap .u64 (nth y1 s65.2)))))), (19, lsv (encI .u8) 1 y1), (20, .int .i64 (y1.length : Int)), (21, .int .i64 (IntKind.wrap .i64 (s65.2 + 1)))]) (H2 := []) (by kernel_rfl) ?_
        refine RJ.end (by kernel_rfl) ?_
        obtain rfl := Option.some.inj h83
        exact PJ.loopNext [1, 2, 6, 7, 19, 20, 21] (by kernel_rfl) (by kernel_rfl)
      · have h82 := condF hb80 hs78
        refine K.condF (by kernel_rfl) ?_
        refine K.exit 0 (by kernel_rfl) ?_
        refine PJ.passExit ?_
        obtain rfl := Option.some.inj h82
        refine PJ.loopOut (fun e => nomatch e) (fun he85 => ?_)
        have h84 := congrArg some he85
        refine PJ.blockOut ?_
        obtain rfl := Option.some.inj h84
        exact PJ.cutN [1, 2, 6, 7] (by kernel_rfl) (by kernel_rfl)
    · obtain ⟨s89, hy91, h93⟩ := bindS h64
      refine K.cutN (by kernel_rfl) (fun (s89 : Bool) => ([(6, .bool s89)], [])) s89 ?_ ?_
      · refine K.region (by kernel_rfl) ?_
        refine RJ.seg 5 [1, 6, 7, 35] (L2 := [(1, .int .i64 x1), (6, .bool false), (7, .int .u64 s60), (35, .bool ((decide (s60 ≤ (IntKind.wrap .u64 x2)))))]) (H2 := []) (by kernel_rfl) ?_
        refine RJ.caseB 35 (b := (decide (s60 ≤ (IntKind.wrap .u64 x2)))) (by kernel_rfl) (fun hb94 => ?_) (fun hb94 => ?_)
        · have h95 := condT hb94 hy91
          refine RJ.seg 7 [6] (L2 := [(6, .bool ((decide (s60 ≥ (IntKind.wrap .u64 (maxI x1 0))))))]) (H2 := []) (by kernel_rfl) ?_
          refine RJ.end (by kernel_rfl) ?_
          obtain rfl := Option.some.inj h95
          exact PJ.cutN [6] (by kernel_rfl) (by kernel_rfl)
        · have h96 := condF hb94 hy91
          refine RJ.seg 7 [6] (L2 := [(6, .bool false)]) (H2 := []) (by kernel_rfl) ?_
          refine RJ.end (by kernel_rfl) ?_
          obtain rfl := Option.some.inj h96
          exact PJ.cutN [6] (by kernel_rfl) (by kernel_rfl)
      · refine K.ret (by kernel_rfl) ?_
        obtain rfl := Option.some.inj h93
        exact K.ret0 (.inr rfl) hFn hFH hFD (by kernel_rfl) (by kernel_rfl) (by kernel_rfl)

def exerguelaw07_shown  : Option (Bool) :=
  (Option.bind (oper_Of ([0, 1] : List Int) ([5, 0] : List Int) 0) fun y1 => (Option.bind (oper_Operand y1.1 102) fun y4 => (Option.bind (oper_Operand y1.1 110) fun y7 => (Option.bind (bif (decide (y1.2 = 0)) then (Option.bind (oper_Right y1.1) fun y51 => (bif y51 then (bif (decide ((y1.1.I_.length : Int) = 1)) then (bif (decide (y1.1.W_ = 1)) then (bif y4.2 then (bif (decide ((y4.1.length : Int) = 2)) then (bif (!y7.2) then (Option.bind (oper_Mod ([1, 7] : List Int) 5) fun y72 => (bif (decide (y72 = 2)) then (Option.bind (oper_In ([7] : List Int) 3 9) fun y78 => (some y78)) else (some false))) else (some false)) else (some false)) else (some false)) else (some false)) else (some false)) else (some false))) else (some false)) fun (s43 : Bool) => (some s43)))))
theorem exerguelaw07_shown_ok  {r : Bool} (h : exerguelaw07_shown = some r) : SC Try.prog 10 [] [] (.bool r) [] := by
  refine K.fn (fn := Try.f10) (by kernel_rfl) (by kernel_rfl) (by kernel_rfl) (by kernel_rfl) (by kernel_rfl) (fun F hFn hFH hFD => ?_)
  unfold exerguelaw07_shown at h
  refine K.seq (by kernel_rfl) ?_
  refine K.region (by kernel_rfl) ?_
  refine RJ.seg 1 [0] (L2 := [(0, .bool false)]) (H2 := []) (by kernel_rfl) ?_
  refine RJ.end (by kernel_rfl) ?_
  refine PJ.next ?_
  refine K.seq (by kernel_rfl) ?_
  refine K.region (by kernel_rfl) ?_
  refine RJ.seg 2 [0, 8, 9] (L2 := [(0, .bool false), (8, .vc 0), (9, .vc 1)]) (H2 := [vecL (encI .u8) 1 5 ([0, 1] : List Int), vecL (encI .u8) 1 5 ([5, 0] : List Int)]) (by kernel_rfl) ?_
  obtain ⟨y1, hy2, h3⟩ := bindS h
  refine RJ.wk (Wk.freeze 0 (n := ([0, 1] : List Int).length) (k := 1) (e := 5) (cs := ([0, 1] : List Int).flatMap (encI .u8)) (by kernel_rfl)) ?_
  refine RJ.wk (Wk.freeze 1 (n := ([5, 0] : List Int).length) (k := 1) (e := 5) (cs := ([5, 0] : List Int).flatMap (encI .u8)) (by kernel_rfl)) ?_
  refine RJ.call0 (d := (some 10)) (f := 12) (args := [lsv (encI .u8) 1 ([0, 1] : List Int), lsv (encI .u8) 1 ([5, 0] : List Int), .int .i64 0]) (v := .tup [.agg [lsv (encI .u8) 1 y1.1.I_, lsv (encI .u8) 1 y1.1.F_, .int .i64 y1.1.W_, .int .i64 y1.1.C_], .int .i64 y1.2]) (tr2 := []) (by kernel_rfl) (by kernel_rfl) (.cons (Le.refl _) (.cons (Le.refl _) (.cons (Le.refl _) .nil))) (oper_Of_ok hy2) (by kernel_rfl) ?_
  refine RJ.seg 6 [0, 1, 2] (L2 := [(0, .bool false), (1, .ptr 2 0), (2, .int .i64 y1.2)]) (H2 := [.gone, .gone, .box [lsv (encI .u8) 1 y1.1.I_, lsv (encI .u8) 1 y1.1.F_, .int .i64 y1.1.W_, .int .i64 y1.1.C_]]) (by kernel_rfl) ?_
  refine RJ.end (by kernel_rfl) ?_
  refine PJ.next ?_
  refine K.seq (by kernel_rfl) ?_
  refine K.region (by kernel_rfl) ?_
  refine RJ.seg 1 [0, 1, 2, 14] (L2 := [(0, .bool false), (1, .ptr 2 0), (2, .int .i64 y1.2), (14, .agg [lsv (encI .u8) 1 y1.1.I_, lsv (encI .u8) 1 y1.1.F_, .int .i64 y1.1.W_, .int .i64 y1.1.C_])]) (H2 := [.gone, .gone, .box [lsv (encI .u8) 1 y1.1.I_, lsv (encI .u8) 1 y1.1.F_, .int .i64 y1.1.W_, .int .i64 y1.1.C_]]) (by kernel_rfl) ?_
  obtain ⟨y4, hy5, h6⟩ := bindS h3
  refine RJ.call0 (d := (some 15)) (f := 18) (args := [.agg [lsv (encI .u8) 1 y1.1.I_, lsv (encI .u8) 1 y1.1.F_, .int .i64 y1.1.W_, .int .i64 y1.1.C_], .int .u8 102]) (v := .tup [lsv (encI .u8) 1 y4.1, .bool y4.2]) (tr2 := []) (by kernel_rfl) (by kernel_rfl) (.cons (Le.refl _) (.cons (Le.refl _) .nil)) (oper_Operand_ok hy5) (by kernel_rfl) ?_
  refine RJ.seg 5 [0, 1, 2, 3, 4] (L2 := [(0, .bool false), (1, .ptr 2 0), (2, .int .i64 y1.2), (3, lsv (encI .u8) 1 y4.1), (4, .bool y4.2)]) (H2 := [.gone, .gone, .box [lsv (encI .u8) 1 y1.1.I_, lsv (encI .u8) 1 y1.1.F_, .int .i64 y1.1.W_, .int .i64 y1.1.C_]]) (by kernel_rfl) ?_
  refine RJ.end (by kernel_rfl) ?_
  refine PJ.next ?_
  refine K.seq (by kernel_rfl) ?_
  refine K.region (by kernel_rfl) ?_
  refine RJ.seg 1 [0, 1, 2, 3, 4, 19] (L2 := [(0, .bool false), (1, .ptr 2 0), (2, .int .i64 y1.2), (3, lsv (encI .u8) 1 y4.1), (4, .bool y4.2), (19, .agg [lsv (encI .u8) 1 y1.1.I_, lsv (encI .u8) 1 y1.1.F_, .int .i64 y1.1.W_, .int .i64 y1.1.C_])]) (H2 := [.gone, .gone, .box [lsv (encI .u8) 1 y1.1.I_, lsv (encI .u8) 1 y1.1.F_, .int .i64 y1.1.W_, .int .i64 y1.1.C_]]) (by kernel_rfl) ?_
  obtain ⟨y7, hy8, h9⟩ := bindS h6
  refine RJ.call0 (d := (some 20)) (f := 18) (args := [.agg [lsv (encI .u8) 1 y1.1.I_, lsv (encI .u8) 1 y1.1.F_, .int .i64 y1.1.W_, .int .i64 y1.1.C_], .int .u8 110]) (v := .tup [lsv (encI .u8) 1 y7.1, .bool y7.2]) (tr2 := []) (by kernel_rfl) (by kernel_rfl) (.cons (Le.refl _) (.cons (Le.refl _) .nil)) (oper_Operand_ok hy8) (by kernel_rfl) ?_
  refine RJ.seg 5 [0, 1, 2, 3, 4, 6] (L2 := [(0, .bool false), (1, .ptr 2 0), (2, .int .i64 y1.2), (3, lsv (encI .u8) 1 y4.1), (4, .bool y4.2), (6, .bool y7.2)]) (H2 := [.gone, .gone, .box [lsv (encI .u8) 1 y1.1.I_, lsv (encI .u8) 1 y1.1.F_, .int .i64 y1.1.W_, .int .i64 y1.1.C_]]) (by kernel_rfl) ?_
  refine RJ.end (by kernel_rfl) ?_
  refine PJ.next ?_
  obtain ⟨s43, hy45, h47⟩ := bindS h9
  refine K.cutN (by kernel_rfl) (fun (s43 : Bool) => ([(0, .bool s43)], [])) s43 ?_ ?_
  · refine K.region (by kernel_rfl) ?_
    refine RJ.seg 3 [0, 1, 3, 4, 6, 25] (L2 := [(0, .bool false), (1, .ptr 2 0), (3, lsv (encI .u8) 1 y4.1), (4, .bool y4.2), (6, .bool y7.2), (25, .bool (decide (y1.2 = 0)))]) (H2 := [.gone, .gone, .box [lsv (encI .u8) 1 y1.1.I_, lsv (encI .u8) 1 y1.1.F_, .int .i64 y1.1.W_, .int .i64 y1.1.C_]]) (by kernel_rfl) ?_
    refine RJ.caseB 25 (b := (decide (y1.2 = 0))) (by kernel_rfl) (fun hb48 => ?_) (fun hb48 => ?_)
    · have h49 := condT hb48 hy45
      refine RJ.seg 1 [0, 1, 3, 4, 6, 25, 26] (L2 := [(0, .bool false), (1, .ptr 2 0), (3, lsv (encI .u8) 1 y4.1), (4, .bool y4.2), (6, .bool y7.2), (25, .bool true), (26, .agg [lsv (encI .u8) 1 y1.1.I_, lsv (encI .u8) 1 y1.1.F_, .int .i64 y1.1.W_, .int .i64 y1.1.C_])]) (H2 := [.gone, .gone, .box [lsv (encI .u8) 1 y1.1.I_, lsv (encI .u8) 1 y1.1.F_, .int .i64 y1.1.W_, .int .i64 y1.1.C_]]) (by kernel_rfl) ?_
      obtain ⟨y51, hy52, h53⟩ := bindS h49
      refine RJ.call0 (d := (some 27)) (f := 16) (args := [.agg [lsv (encI .u8) 1 y1.1.I_, lsv (encI .u8) 1 y1.1.F_, .int .i64 y1.1.W_, .int .i64 y1.1.C_]]) (v := .bool y51) (tr2 := []) (by kernel_rfl) (by kernel_rfl) (.cons (Le.refl _) .nil) (oper_Right_ok hy52) (by kernel_rfl) ?_
      refine RJ.seg 2 [0, 1, 3, 4, 6, 29] (L2 := [(0, .bool false), (1, .ptr 2 0), (3, lsv (encI .u8) 1 y4.1), (4, .bool y4.2), (6, .bool y7.2), (29, .bool y51)]) (H2 := [.gone, .gone, .box [lsv (encI .u8) 1 y1.1.I_, lsv (encI .u8) 1 y1.1.F_, .int .i64 y1.1.W_, .int .i64 y1.1.C_]]) (by kernel_rfl) ?_
      refine RJ.caseB 29 (b := y51) (by kernel_rfl) (fun hb54 => ?_) (fun hb54 => ?_)
      · have h55 := condT hb54 h53
        refine RJ.seg 6 [0, 1, 3, 4, 6, 35] (L2 := [(0, .bool false), (1, .ptr 2 0), (3, lsv (encI .u8) 1 y4.1), (4, .bool y4.2), (6, .bool y7.2), (35, .bool ((decide ((y1.1.I_.length : Int) = 1))))]) (H2 := [.gone, .gone, .box [lsv (encI .u8) 1 y1.1.I_, lsv (encI .u8) 1 y1.1.F_, .int .i64 y1.1.W_, .int .i64 y1.1.C_]]) (by kernel_rfl) ?_
        refine RJ.caseB 35 (b := (decide ((y1.1.I_.length : Int) = 1))) (by kernel_rfl) (fun hb57 => ?_) (fun hb57 => ?_)
        · have h58 := condT hb57 h55
          refine RJ.seg 5 [0, 3, 4, 6, 40] (L2 := [(0, .bool false), (3, lsv (encI .u8) 1 y4.1), (4, .bool y4.2), (6, .bool y7.2), (40, .bool (decide (y1.1.W_ = 1)))]) (H2 := [.gone, .gone, .box [lsv (encI .u8) 1 y1.1.I_, lsv (encI .u8) 1 y1.1.F_, .int .i64 y1.1.W_, .int .i64 y1.1.C_]]) (by kernel_rfl) ?_
          refine RJ.caseB 40 (b := (decide (y1.1.W_ = 1))) (by kernel_rfl) (fun hb60 => ?_) (fun hb60 => ?_)
          · have h61 := condT hb60 h58
            refine RJ.seg 3 [0, 3, 6, 43] (L2 := [(0, .bool false), (3, lsv (encI .u8) 1 y4.1), (6, .bool y7.2), (43, .bool y4.2)]) (H2 := [.gone, .gone, .box [lsv (encI .u8) 1 y1.1.I_, lsv (encI .u8) 1 y1.1.F_, .int .i64 y1.1.W_, .int .i64 y1.1.C_]]) (by kernel_rfl) ?_
            refine RJ.caseB 43 (b := y4.2) (by kernel_rfl) (fun hb63 => ?_) (fun hb63 => ?_)
            · have h64 := condT hb63 h61
              refine RJ.seg 5 [0, 6, 48] (L2 := [(0, .bool false), (6, .bool y7.2), (48, .bool ((decide ((y4.1.length : Int) = 2))))]) (H2 := [.gone, .gone, .box [lsv (encI .u8) 1 y1.1.I_, lsv (encI .u8) 1 y1.1.F_, .int .i64 y1.1.W_, .int .i64 y1.1.C_]]) (by kernel_rfl) ?_
              refine RJ.caseB 48 (b := (decide ((y4.1.length : Int) = 2))) (by kernel_rfl) (fun hb66 => ?_) (fun hb66 => ?_)
              · have h67 := condT hb66 h64
                refine RJ.seg 4 [0, 52] (L2 := [(0, .bool false), (52, .bool (!y7.2))]) (H2 := [.gone, .gone, .box [lsv (encI .u8) 1 y1.1.I_, lsv (encI .u8) 1 y1.1.F_, .int .i64 y1.1.W_, .int .i64 y1.1.C_]]) (by kernel_rfl) ?_
                refine RJ.caseB 52 (b := (!y7.2)) (by kernel_rfl) (fun hb69 => ?_) (fun hb69 => ?_)
                · have h70 := condT hb69 h67
                  refine RJ.seg 1 [0, 52, 53] (L2 := [(0, .bool false), (52, .bool true), (53, .vc 3)]) (H2 := [.gone, .gone, .box [lsv (encI .u8) 1 y1.1.I_, lsv (encI .u8) 1 y1.1.F_, .int .i64 y1.1.W_, .int .i64 y1.1.C_], vecL (encI .u8) 1 5 ([1, 7] : List Int)]) (by kernel_rfl) ?_
                  obtain ⟨y72, hy73, h74⟩ := bindS h70
                  refine RJ.callL (d := (some 54)) (f := 22) (args := [.vc 3, .int .i64 5]) (args0 := [.vc 0, .int .i64 5]) (args1 := [lsv (encI .u8) 1 ([1, 7] : List Int), .int .i64 5]) (H0 := [vecL (encI .u8) 1 5 ([1, 7] : List Int)]) (v := .int .i64 y72) (tr2 := []) [3] (by kernel_rfl) (by kernel_rfl) (by kernel_rfl) (by kernel_rfl) (by decide) (by kernel_rfl) (by kernel_rfl) (by kernel_rfl) (by kernel_rfl) (.cons (Le.refl _) (.cons (Le.refl _) .nil)) (oper_Mod_ok hy73) (by kernel_rfl) (by kernel_rfl) ?_
                  refine RJ.seg 3 [0, 57] (L2 := [(0, .bool false), (57, .bool (decide (y72 = 2)))]) (H2 := [.gone, .gone, .box [lsv (encI .u8) 1 y1.1.I_, lsv (encI .u8) 1 y1.1.F_, .int .i64 y1.1.W_, .int .i64 y1.1.C_], vecL (encI .u8) 1 5 ([1, 7] : List Int)]) (by kernel_rfl) ?_
                  refine RJ.caseB 57 (b := (decide (y72 = 2))) (by kernel_rfl) (fun hb75 => ?_) (fun hb75 => ?_)
                  · have h76 := condT hb75 h74
                    refine RJ.seg 1 [0, 57, 58] (L2 := [(0, .bool false), (57, .bool true), (58, .vc 4)]) (H2 := [.gone, .gone, .box [lsv (encI .u8) 1 y1.1.I_, lsv (encI .u8) 1 y1.1.F_, .int .i64 y1.1.W_, .int .i64 y1.1.C_], vecL (encI .u8) 1 5 ([1, 7] : List Int), vecL (encI .u8) 1 5 ([7] : List Int)]) (by kernel_rfl) ?_
                    obtain ⟨y78, hy79, h80⟩ := bindS h76
                    refine RJ.callL (d := (some 59)) (f := 24) (args := [.vc 4, .int .i64 3, .int .i64 9]) (args0 := [.vc 0, .int .i64 3, .int .i64 9]) (args1 := [lsv (encI .u8) 1 ([7] : List Int), .int .i64 3, .int .i64 9]) (H0 := [vecL (encI .u8) 1 5 ([7] : List Int)]) (v := .bool y78) (tr2 := []) [4] (by kernel_rfl) (by kernel_rfl) (by kernel_rfl) (by kernel_rfl) (by decide) (by kernel_rfl) (by kernel_rfl) (by kernel_rfl) (by kernel_rfl) (.cons (Le.refl _) (.cons (Le.refl _) (.cons (Le.refl _) .nil))) (oper_In_ok hy79) (by kernel_rfl) (by kernel_rfl) ?_
                    refine RJ.seg 2 [0] (L2 := [(0, .bool y78)]) (H2 := [.gone, .gone, .box [lsv (encI .u8) 1 y1.1.I_, lsv (encI .u8) 1 y1.1.F_, .int .i64 y1.1.W_, .int .i64 y1.1.C_], vecL (encI .u8) 1 5 ([1, 7] : List Int), vecL (encI .u8) 1 5 ([7] : List Int)]) (by kernel_rfl) ?_
                    refine RJ.end (by kernel_rfl) ?_
                    obtain rfl := Option.some.inj h80
                    refine PJ.wk (Wk.sel (L2 := [(0, .bool y78)]) (H2 := []) 0 (by rw [hFH]; rfl) hFD [] (by kernel_rfl) (by kernel_rfl) (by decide) (by kernel_rfl) (by kernel_rfl) (by kernel_rfl) (by kernel_rfl)) ?_
                    exact PJ.cutN [0] (by kernel_rfl) (by kernel_rfl)
                  · have h77 := condF hb75 h74
                    refine RJ.seg 4 [0] (L2 := [(0, .bool false)]) (H2 := [.gone, .gone, .box [lsv (encI .u8) 1 y1.1.I_, lsv (encI .u8) 1 y1.1.F_, .int .i64 y1.1.W_, .int .i64 y1.1.C_], vecL (encI .u8) 1 5 ([1, 7] : List Int)]) (by kernel_rfl) ?_
                    refine RJ.end (by kernel_rfl) ?_
                    obtain rfl := Option.some.inj h77
                    refine PJ.wk (Wk.sel (L2 := [(0, .bool false)]) (H2 := []) 0 (by rw [hFH]; rfl) hFD [] (by kernel_rfl) (by kernel_rfl) (by decide) (by kernel_rfl) (by kernel_rfl) (by kernel_rfl) (by kernel_rfl)) ?_
                    exact PJ.cutN [0] (by kernel_rfl) (by kernel_rfl)
                · have h71 := condF hb69 h67
                  refine RJ.seg 9 [0] (L2 := [(0, .bool false)]) (H2 := [.gone, .gone, .box [lsv (encI .u8) 1 y1.1.I_, lsv (encI .u8) 1 y1.1.F_, .int .i64 y1.1.W_, .int .i64 y1.1.C_]]) (by kernel_rfl) ?_
                  refine RJ.end (by kernel_rfl) ?_
                  obtain rfl := Option.some.inj h71
                  refine PJ.wk (Wk.sel (L2 := [(0, .bool false)]) (H2 := []) 0 (by rw [hFH]; rfl) hFD [] (by kernel_rfl) (by kernel_rfl) (by decide) (by kernel_rfl) (by kernel_rfl) (by kernel_rfl) (by kernel_rfl)) ?_
                  exact PJ.cutN [0] (by kernel_rfl) (by kernel_rfl)
              · have h68 := condF hb66 h64
                refine RJ.seg 13 [0] (L2 := [(0, .bool false)]) (H2 := [.gone, .gone, .box [lsv (encI .u8) 1 y1.1.I_, lsv (encI .u8) 1 y1.1.F_, .int .i64 y1.1.W_, .int .i64 y1.1.C_]]) (by kernel_rfl) ?_
                refine RJ.end (by kernel_rfl) ?_
                obtain rfl := Option.some.inj h68
                refine PJ.wk (Wk.sel (L2 := [(0, .bool false)]) (H2 := []) 0 (by rw [hFH]; rfl) hFD [] (by kernel_rfl) (by kernel_rfl) (by decide) (by kernel_rfl) (by kernel_rfl) (by kernel_rfl) (by kernel_rfl)) ?_
                exact PJ.cutN [0] (by kernel_rfl) (by kernel_rfl)
            · have h65 := condF hb63 h61
              refine RJ.seg 18 [0] (L2 := [(0, .bool false)]) (H2 := [.gone, .gone, .box [lsv (encI .u8) 1 y1.1.I_, lsv (encI .u8) 1 y1.1.F_, .int .i64 y1.1.W_, .int .i64 y1.1.C_]]) (by kernel_rfl) ?_
              refine RJ.end (by kernel_rfl) ?_
              obtain rfl := Option.some.inj h65
              refine PJ.wk (Wk.sel (L2 := [(0, .bool false)]) (H2 := []) 0 (by rw [hFH]; rfl) hFD [] (by kernel_rfl) (by kernel_rfl) (by decide) (by kernel_rfl) (by kernel_rfl) (by kernel_rfl) (by kernel_rfl)) ?_
              exact PJ.cutN [0] (by kernel_rfl) (by kernel_rfl)
          · have h62 := condF hb60 h58
            refine RJ.seg 21 [0] (L2 := [(0, .bool false)]) (H2 := [.gone, .gone, .box [lsv (encI .u8) 1 y1.1.I_, lsv (encI .u8) 1 y1.1.F_, .int .i64 y1.1.W_, .int .i64 y1.1.C_]]) (by kernel_rfl) ?_
            refine RJ.end (by kernel_rfl) ?_
            obtain rfl := Option.some.inj h62
            refine PJ.wk (Wk.sel (L2 := [(0, .bool false)]) (H2 := []) 0 (by rw [hFH]; rfl) hFD [] (by kernel_rfl) (by kernel_rfl) (by decide) (by kernel_rfl) (by kernel_rfl) (by kernel_rfl) (by kernel_rfl)) ?_
            exact PJ.cutN [0] (by kernel_rfl) (by kernel_rfl)
        · have h59 := condF hb57 h55
          refine RJ.seg 26 [0] (L2 := [(0, .bool false)]) (H2 := [.gone, .gone, .box [lsv (encI .u8) 1 y1.1.I_, lsv (encI .u8) 1 y1.1.F_, .int .i64 y1.1.W_, .int .i64 y1.1.C_]]) (by kernel_rfl) ?_
          refine RJ.end (by kernel_rfl) ?_
          obtain rfl := Option.some.inj h59
          refine PJ.wk (Wk.sel (L2 := [(0, .bool false)]) (H2 := []) 0 (by rw [hFH]; rfl) hFD [] (by kernel_rfl) (by kernel_rfl) (by decide) (by kernel_rfl) (by kernel_rfl) (by kernel_rfl) (by kernel_rfl)) ?_
          exact PJ.cutN [0] (by kernel_rfl) (by kernel_rfl)
      · have h56 := condF hb54 h53
        refine RJ.seg 32 [0] (L2 := [(0, .bool false)]) (H2 := [.gone, .gone, .box [lsv (encI .u8) 1 y1.1.I_, lsv (encI .u8) 1 y1.1.F_, .int .i64 y1.1.W_, .int .i64 y1.1.C_]]) (by kernel_rfl) ?_
        refine RJ.end (by kernel_rfl) ?_
        obtain rfl := Option.some.inj h56
        refine PJ.wk (Wk.sel (L2 := [(0, .bool false)]) (H2 := []) 0 (by rw [hFH]; rfl) hFD [] (by kernel_rfl) (by kernel_rfl) (by decide) (by kernel_rfl) (by kernel_rfl) (by kernel_rfl) (by kernel_rfl)) ?_
        exact PJ.cutN [0] (by kernel_rfl) (by kernel_rfl)
    · have h50 := condF hb48 hy45
      refine RJ.seg 36 [0] (L2 := [(0, .bool false)]) (H2 := [.gone, .gone, .box [lsv (encI .u8) 1 y1.1.I_, lsv (encI .u8) 1 y1.1.F_, .int .i64 y1.1.W_, .int .i64 y1.1.C_]]) (by kernel_rfl) ?_
      refine RJ.end (by kernel_rfl) ?_
      obtain rfl := Option.some.inj h50
      refine PJ.wk (Wk.sel (L2 := [(0, .bool false)]) (H2 := []) 0 (by rw [hFH]; rfl) hFD [] (by kernel_rfl) (by kernel_rfl) (by decide) (by kernel_rfl) (by kernel_rfl) (by kernel_rfl) (by kernel_rfl)) ?_
      exact PJ.cutN [0] (by kernel_rfl) (by kernel_rfl)
  · refine K.ret (by kernel_rfl) ?_
    obtain rfl := Option.some.inj h47
    exact K.ret0 (.inr rfl) hFn hFH hFD (by kernel_rfl) (by kernel_rfl) (by kernel_rfl)

def exerguelaw07_few (x0 : List Int) (x1 : List Int) : Option (Bool) :=
  (some (decide (((IntKind.wrap .i64 ((x0.length : Int) + (x1.length : Int)))) ≤ 1000)))
theorem exerguelaw07_few_ok {x0 : List Int} {x1 : List Int} {r : Bool} (h : exerguelaw07_few x0 x1 = some r) : SC Try.prog 11 [lsv (encI .u8) 1 x0, lsv (encI .u8) 1 x1] [] (.bool r) [] := by
  refine K.fn (fn := Try.f11) (by kernel_rfl) (by kernel_rfl) (by kernel_rfl) (by kernel_rfl) (by kernel_rfl) (fun F hFn hFH hFD => ?_)
  unfold exerguelaw07_few at h
  refine K.seq (by kernel_rfl) ?_
  refine K.region (by kernel_rfl) ?_
  refine RJ.seg 1 [0, 1, 4] (L2 := [(0, lsv (encI .u8) 1 x0), (1, lsv (encI .u8) 1 x1), (4, .bool false)]) (H2 := []) (by kernel_rfl) ?_
  refine RJ.end (by kernel_rfl) ?_
  refine PJ.next ?_
  refine K.seq (by kernel_rfl) ?_
  refine K.region (by kernel_rfl) ?_
  refine RJ.seg 7 [4] (L2 := [(4, .bool ((decide (((IntKind.wrap .i64 ((x0.length : Int) + (x1.length : Int)))) ≤ 1000))))]) (H2 := []) (by kernel_rfl) ?_
  refine RJ.end (by kernel_rfl) ?_
  refine PJ.next ?_
  refine K.ret (by kernel_rfl) ?_
  obtain rfl := Option.some.inj h
  exact K.ret0 (.inr rfl) hFn hFH hFD (by kernel_rfl) (by kernel_rfl) (by kernel_rfl)

def exergueref07_Figures (x0 : List Int) : Option (Bool) :=
  (Option.bind (loopN (fun (s45 : Int) => (bif (decide (s45 < (x0.length : Int))) then (bif inR s45 x0.length then (bif (decide ((nth x0 s45) > 9)) then (some (.inr (.inr false))) else (some (.inl (IntKind.wrap .i64 (s45 + 1))))) else none) else (some (.inr (.inl ()))))) big 0) (joinX fun (s40 : Unit) => (some true)))
theorem exergueref07_Figures_ok {x0 : List Int} {r : Bool} (h : exergueref07_Figures x0 = some r) : SC Try.prog 21 [lsv (encI .u8) 1 x0] [] (.bool r) [] := by
  refine K.fn (fn := Try.f21) (by kernel_rfl) (by kernel_rfl) (by kernel_rfl) (by kernel_rfl) (by kernel_rfl) (fun F hFn hFH hFD => ?_)
  unfold exergueref07_Figures at h
  refine K.seq (by kernel_rfl) ?_
  refine K.region (by kernel_rfl) ?_
  refine RJ.seg 1 [0, 2] (L2 := [(0, lsv (encI .u8) 1 x0), (2, .bool false)]) (H2 := []) (by kernel_rfl) ?_
  refine RJ.end (by kernel_rfl) ?_
  refine PJ.next ?_
  obtain ⟨y41, hy42, h43⟩ := bindS h
  refine K.cutX (by kernel_rfl) (fun (s40 : Unit) => ([(2, .bool false)], [])) y41 ?_ (fun s40 hs => ?_)
  · refine K.seq (by kernel_rfl) ?_
    refine K.region (by kernel_rfl) ?_
    refine RJ.seg 1 [0, 2, 3] (L2 := [(0, lsv (encI .u8) 1 x0), (2, .bool false), (3, .int .i64 0)]) (H2 := []) (by kernel_rfl) ?_
    refine RJ.end (by kernel_rfl) ?_
    refine PJ.next ?_
    refine K.block 0 (by kernel_rfl) ?_
    refine K.loop (by kernel_rfl) (fun (s45 : Int) => ([(0, lsv (encI .u8) 1 x0), (2, .bool false), (3, .int .i64 s45)], [])) hy42 [0, 2, 3] (by kernel_rfl) (by kernel_rfl) (fun s45 x71 hs70 => ?_)
    refine K.seq (by kernel_rfl) ?_
    refine K.seq (by kernel_rfl) ?_
    refine K.region (by kernel_rfl) ?_
    refine RJ.seg 4 [0, 2, 3, 7] (L2 := [(0, lsv (encI .u8) 1 x0), (2, .bool false), (3, .int .i64 s45), (7, .bool ((decide (s45 < (x0.length : Int)))))]) (H2 := []) (by kernel_rfl) ?_
    refine RJ.end (by kernel_rfl) ?_
    refine PJ.next ?_
    refine J.caseB 7 (b := (decide (s45 < (x0.length : Int)))) (by kernel_rfl) (fun hb72 => ?_) (fun hb72 => ?_)
    · have h73 := condT hb72 hs70
      refine K.condT (by kernel_rfl) ?_
      refine K.skip (by kernel_rfl) ?_
      refine PJ.next ?_
      refine K.seq (by kernel_rfl) ?_
      refine K.block 1 (by kernel_rfl) ?_
      refine K.seq (by kernel_rfl) ?_
      refine K.region (by kernel_rfl) ?_
      refine RJ.seg 2 [0, 2, 3, 10, 11] (L2 := [(0, lsv (encI .u8) 1 x0), (2, .bool false), (3, .int .i64 s45), (10, lsv (encI .u8) 1 x0), (11, .int .i64 s45)]) (H2 := []) (by kernel_rfl) ?_
      obtain ⟨hm, h75⟩ := asrt h73
      refine RJ.rel (d := (some 12)) (ef := ⟨.ep (((x0.flatMap (encI .u8)).drop ((s45 : Int).toNat * 1)).take 1), [], []⟩) (ef' := ⟨.ep ((encI .u8) (nth x0 s45)), [], []⟩) (c := inR s45 x0.length) (tr2 := []) (H2 := []) (by kernel_rfl) hm (fun hc => N.idx (encI_len .u8) hc) (by kernel_rfl) ?_
      refine RJ.seg 2 [0, 2, 3, 14] (L2 := [(0, lsv (encI .u8) 1 x0), (2, .bool false), (3, .int .i64 s45), (14, .bool ((decide ((nth x0 s45) > 9))))]) (H2 := []) (by kernel_rfl) ?_
      refine RJ.end (by kernel_rfl) ?_
      refine PJ.next ?_
      refine J.caseB 14 (b := (decide ((nth x0 s45) > 9))) (by kernel_rfl) (fun hb76 => ?_) (fun hb76 => ?_)
      · have h77 := condT hb76 h75
        refine K.condT (by kernel_rfl) ?_
        refine K.seq (by kernel_rfl) ?_
        refine K.region (by kernel_rfl) ?_
        refine RJ.seg 1 [0, 2, 3] (L2 := [(0, lsv (encI .u8) 1 x0), (2, .bool false), (3, .int .i64 s45)]) (H2 := []) (by kernel_rfl) ?_
        refine RJ.end (by kernel_rfl) ?_
        refine PJ.next ?_
        refine K.ret (by kernel_rfl) ?_
        refine PJ.blockRet ?_
        refine PJ.passRet ?_
        obtain rfl := Option.some.inj h77
        refine PJ.loopOut (fun e => nomatch e) (fun he81 => ?_)
        have h79 := congrArg some he81
        refine PJ.blockRet ?_
        obtain rfl := Option.some.inj h79
        have h80 := joinX_inr h43
        refine PJ.cutXr (fun e => nomatch e) ?_
        obtain rfl := Option.some.inj h80
        exact K.ret0 (.inr rfl) hFn hFH hFD (by kernel_rfl) (by kernel_rfl) (by kernel_rfl)
      · have h78 := condF hb76 h75
        refine K.condF (by kernel_rfl) ?_
        refine K.skip (by kernel_rfl) ?_
        refine PJ.blockNormal ?_
        refine PJ.next ?_
        refine K.region (by kernel_rfl) ?_
        refine RJ.seg 3 [0, 2, 3] (L2 := [(0, lsv (encI .u8) 1 x0), (2, .bool false), (3, .int .i64 (IntKind.wrap .i64 (s45 + 1)))]) (H2 := []) (by kernel_rfl) ?_
        refine RJ.end (by kernel_rfl) ?_
        obtain rfl := Option.some.inj h78
        exact PJ.loopNext [0, 2, 3] (by kernel_rfl) (by kernel_rfl)
    · have h74 := condF hb72 hs70
      refine K.condF (by kernel_rfl) ?_
      refine K.exit 0 (by kernel_rfl) ?_
      refine PJ.passExit ?_
      obtain rfl := Option.some.inj h74
      refine PJ.loopOut (fun e => nomatch e) (fun he83 => ?_)
      have h82 := congrArg some he83
      refine PJ.blockOut ?_
      obtain rfl := Option.some.inj h82
      exact PJ.cutXl [2] (by kernel_rfl) (by kernel_rfl)
  · subst hs
    have h44 := joinX_inl h43
    refine K.seq (by kernel_rfl) ?_
    refine K.region (by kernel_rfl) ?_
    refine RJ.seg 1 [2] (L2 := [(2, .bool true)]) (H2 := []) (by kernel_rfl) ?_
    refine RJ.end (by kernel_rfl) ?_
    refine PJ.next ?_
    refine K.ret (by kernel_rfl) ?_
    obtain rfl := Option.some.inj h44
    exact K.ret0 (.inr rfl) hFn hFH hFD (by kernel_rfl) (by kernel_rfl) (by kernel_rfl)

def exergueref07_Bare (x0 : List Int) : Option (List Int) :=
  (Option.bind (loopN (fun (s138 : Int) => (Option.bind (Option.bind (bif (decide (s138 < (x0.length : Int))) then (bif inR s138 x0.length then (some ((decide ((nth x0 s138) = 0)))) else none) else (some false)) fun (s255 : Bool) => (bif s255 then (some (.inl ())) else (some (.inr (.inr s138))))) (joinX fun (s246 : Unit) => (some (.inl (IntKind.wrap .i64 (s138 + 1))))))) big 0) fun (s133 : Int) => (bif inS s133 (x0.length : Int) x0.length then (some (cut x0 s133 (x0.length : Int))) else none))
theorem exergueref07_Bare_ok {x0 : List Int} {r : List Int} (h : exergueref07_Bare x0 = some r) : SC Try.prog 30 [lsv (encI .u8) 1 x0] [] (lsv (encI .u8) 1 r) [] := by
  refine K.fn (fn := Try.f30) (by kernel_rfl) (by kernel_rfl) (by kernel_rfl) (by kernel_rfl) (by kernel_rfl) (fun F hFn hFH hFD => ?_)
  unfold exergueref07_Bare at h
  refine K.seq (by kernel_rfl) ?_
  refine K.region (by kernel_rfl) ?_
  refine RJ.seg 1 [0, 2] (L2 := [(0, lsv (encI .u8) 1 x0), (2, .nl)]) (H2 := []) (by kernel_rfl) ?_
  refine RJ.end (by kernel_rfl) ?_
  refine PJ.next ?_
  refine K.seq (by kernel_rfl) ?_
  refine K.region (by kernel_rfl) ?_
  refine RJ.seg 1 [0, 2, 3] (L2 := [(0, lsv (encI .u8) 1 x0), (2, .nl), (3, .int .i64 0)]) (H2 := []) (by kernel_rfl) ?_
  refine RJ.end (by kernel_rfl) ?_
  refine PJ.next ?_
  obtain ⟨s133, hy135, h137⟩ := bindS h
  refine K.cutN (by kernel_rfl) (fun (s133 : Int) => ([(0, lsv (encI .u8) 1 x0), (2, .nl), (3, .int .i64 s133)], [])) s133 ?_ ?_
  · refine K.block 0 (by kernel_rfl) ?_
    refine K.loop (by kernel_rfl) (fun (s138 : Int) => ([(0, lsv (encI .u8) 1 x0), (2, .nl), (3, .int .i64 s138)], [])) hy135 [0, 2, 3] (by kernel_rfl) (by kernel_rfl) (fun s138 x226 hs225 => ?_)
    obtain ⟨y247, hy248, h249⟩ := bindS hs225
    refine K.cutX (by kernel_rfl) (fun (s246 : Unit) => ([(0, lsv (encI .u8) 1 x0), (2, .nl), (3, .int .i64 s138)], [])) y247 ?_ (fun s246 hs => ?_)
    · obtain ⟨s255, hy257, h259⟩ := bindS hy248
      refine K.cutN (by kernel_rfl) (fun (s255 : Bool) => ([(0, lsv (encI .u8) 1 x0), (2, .nl), (3, .int .i64 s138), (14, .bool s255)], [])) s255 ?_ ?_
      · refine K.region (by kernel_rfl) ?_
        refine RJ.seg 5 [0, 2, 3, 8] (L2 := [(0, lsv (encI .u8) 1 x0), (2, .nl), (3, .int .i64 s138), (8, .bool ((decide (s138 < (x0.length : Int)))))]) (H2 := []) (by kernel_rfl) ?_
        refine RJ.caseB 8 (b := (decide (s138 < (x0.length : Int)))) (by kernel_rfl) (fun hb260 => ?_) (fun hb260 => ?_)
        · have h261 := condT hb260 hy257
          refine RJ.seg 2 [0, 2, 3, 8, 9, 10] (L2 := [(0, lsv (encI .u8) 1 x0), (2, .nl), (3, .int .i64 s138), (8, .bool true), (9, lsv (encI .u8) 1 x0), (10, .int .i64 s138)]) (H2 := []) (by kernel_rfl) ?_
          obtain ⟨hm, h263⟩ := asrt h261
          refine RJ.rel (d := (some 11)) (ef := ⟨.ep (((x0.flatMap (encI .u8)).drop ((s138 : Int).toNat * 1)).take 1), [], []⟩) (ef' := ⟨.ep ((encI .u8) (nth x0 s138)), [], []⟩) (c := inR s138 x0.length) (tr2 := []) (H2 := []) (by kernel_rfl) hm (fun hc => N.idx (encI_len .u8) hc) (by kernel_rfl) ?_
          refine RJ.seg 3 [0, 2, 3, 14] (L2 := [(0, lsv (encI .u8) 1 x0), (2, .nl), (3, .int .i64 s138), (14, .bool ((decide ((nth x0 s138) = 0))))]) (H2 := []) (by kernel_rfl) ?_
          refine RJ.end (by kernel_rfl) ?_
          obtain rfl := Option.some.inj h263
          exact PJ.cutN [0, 2, 3, 14] (by kernel_rfl) (by kernel_rfl)
        · have h262 := condF hb260 hy257
          refine RJ.seg 6 [0, 2, 3, 14] (L2 := [(0, lsv (encI .u8) 1 x0), (2, .nl), (3, .int .i64 s138), (14, .bool false)]) (H2 := []) (by kernel_rfl) ?_
          refine RJ.end (by kernel_rfl) ?_
          obtain rfl := Option.some.inj h262
          exact PJ.cutN [0, 2, 3, 14] (by kernel_rfl) (by kernel_rfl)
      · refine J.caseB 14 (b := s255) (by kernel_rfl) (fun hb264 => ?_) (fun hb264 => ?_)
        · have h265 := condT hb264 h259
          refine K.condT (by kernel_rfl) ?_
          refine K.skip (by kernel_rfl) ?_
          obtain rfl := Option.some.inj h265
          exact PJ.cutXl [0, 2, 3] (by kernel_rfl) (by kernel_rfl)
        · have h266 := condF hb264 h259
          refine K.condF (by kernel_rfl) ?_
          refine K.exit 0 (by kernel_rfl) ?_
          obtain rfl := Option.some.inj h266
          have h267 := joinX_inr h249
          refine PJ.cutXr (fun e => nomatch e) ?_
          obtain rfl := Option.some.inj h267
          refine PJ.loopOut (fun e => nomatch e) (fun he269 => ?_)
          have h268 := congrArg some he269
          refine PJ.blockOut ?_
          obtain rfl := Option.some.inj h268
          exact PJ.cutN [0, 2, 3] (by kernel_rfl) (by kernel_rfl)
    · subst hs
      have h250 := joinX_inl h249
      refine K.block 1 (by kernel_rfl) ?_
      refine K.region (by kernel_rfl) ?_
      refine RJ.seg 3 [0, 2, 3] (L2 := [(0, lsv (encI .u8) 1 x0), (2, .nl), (3, .int .i64 (IntKind.wrap .i64 (s138 + 1)))]) (H2 := []) (by kernel_rfl) ?_
      refine RJ.end (by kernel_rfl) ?_
      refine PJ.blockNormal ?_
      obtain rfl := Option.some.inj h250
      exact PJ.loopNext [0, 2, 3] (by kernel_rfl) (by kernel_rfl)
  · refine K.seq (by kernel_rfl) ?_
    refine K.region (by kernel_rfl) ?_
    refine RJ.seg 2 [2, 17, 18] (L2 := [(2, .nl), (17, lsv (encI .u8) 1 x0), (18, .int .i64 s133)]) (H2 := []) (by kernel_rfl) ?_
    obtain ⟨hm, h270⟩ := asrt h137
    refine RJ.rel (d := (some 19)) (ef := ⟨.lst (((x0.length : Int) : Int).toNat - (s133 : Int).toNat) 1 (((x0.flatMap (encI .u8)).take (((x0.length : Int) : Int).toNat * 1)).drop ((s133 : Int).toNat * 1)), [], []⟩) (ef' := ⟨.lst (cut x0 s133 (x0.length : Int)).length 1 ((cut x0 s133 (x0.length : Int)).flatMap (encI .u8)), [], []⟩) (c := inS s133 (x0.length : Int) x0.length) (tr2 := []) (H2 := []) (by kernel_rfl) hm (fun hc => N.slice (encI_len .u8) hc) (by kernel_rfl) ?_
    refine RJ.seg 1 [2] (L2 := [(2, lsv (encI .u8) 1 (cut x0 s133 (x0.length : Int)))]) (H2 := []) (by kernel_rfl) ?_
    refine RJ.end (by kernel_rfl) ?_
    refine PJ.next ?_
    refine K.ret (by kernel_rfl) ?_
    obtain rfl := Option.some.inj h270
    exact K.ret0 (.inr rfl) hFn hFH hFD (by kernel_rfl) (by kernel_rfl) (by kernel_rfl)

def exergueref07_Full (x0 : List Int) : Option (Int) :=
  (Option.bind (loopN (fun (s63 : Int × Int) => (bif (decide (s63.2 < (x0.length : Int))) then (Option.bind (bif inR s63.2 x0.length then (bif (decide (¬ (nth x0 s63.2) = 0)) then (some (IntKind.wrap .i64 (s63.2 + 1))) else (some s63.1)) else none) fun (s109 : Int) => (some (.inl (s109, (IntKind.wrap .i64 (s63.2 + 1)))))) else (some (.inr s63.1)))) big (0, 0)) fun (s58 : Int) => (some s58))
theorem exergueref07_Full_ok {x0 : List Int} {r : Int} (h : exergueref07_Full x0 = some r) : SC Try.prog 31 [lsv (encI .u8) 1 x0] [] (.int .i64 r) [] := by
  refine K.fn (fn := Try.f31) (by kernel_rfl) (by kernel_rfl) (by kernel_rfl) (by kernel_rfl) (by kernel_rfl) (fun F hFn hFH hFD => ?_)
  unfold exergueref07_Full at h
  refine K.seq (by kernel_rfl) ?_
  refine K.region (by kernel_rfl) ?_
  refine RJ.seg 1 [0, 2] (L2 := [(0, lsv (encI .u8) 1 x0), (2, .int .i64 0)]) (H2 := []) (by kernel_rfl) ?_
  refine RJ.end (by kernel_rfl) ?_
  refine PJ.next ?_
  refine K.seq (by kernel_rfl) ?_
  refine K.region (by kernel_rfl) ?_
  refine RJ.seg 1 [0, 2, 3] (L2 := [(0, lsv (encI .u8) 1 x0), (2, .int .i64 0), (3, .int .i64 0)]) (H2 := []) (by kernel_rfl) ?_
  refine RJ.end (by kernel_rfl) ?_
  refine PJ.next ?_
  obtain ⟨s58, hy60, h62⟩ := bindS h
  refine K.cutN (by kernel_rfl) (fun (s58 : Int) => ([(2, .int .i64 0), (3, .int .i64 s58)], [])) s58 ?_ ?_
  · refine K.seq (by kernel_rfl) ?_
    refine K.region (by kernel_rfl) ?_
    refine RJ.seg 1 [0, 2, 3, 4] (L2 := [(0, lsv (encI .u8) 1 x0), (2, .int .i64 0), (3, .int .i64 0), (4, .int .i64 0)]) (H2 := []) (by kernel_rfl) ?_
    refine RJ.end (by kernel_rfl) ?_
    refine PJ.next ?_
    refine K.block 0 (by kernel_rfl) ?_
    refine K.loop (by kernel_rfl) (fun (s63 : Int × Int) => ([(0, lsv (encI .u8) 1 x0), (2, .int .i64 0), (3, .int .i64 s63.1), (4, .int .i64 s63.2)], [])) hy60 [0, 2, 3, 4] (by kernel_rfl) (by kernel_rfl) (fun s63 x101 hs100 => ?_)
    refine K.seq (by kernel_rfl) ?_
    refine K.seq (by kernel_rfl) ?_
    refine K.region (by kernel_rfl) ?_
    refine RJ.seg 4 [0, 2, 3, 4, 8] (L2 := [(0, lsv (encI .u8) 1 x0), (2, .int .i64 0), (3, .int .i64 s63.1), (4, .int .i64 s63.2), (8, .bool ((decide (s63.2 < (x0.length : Int)))))]) (H2 := []) (by kernel_rfl) ?_
    refine RJ.end (by kernel_rfl) ?_
    refine PJ.next ?_
    refine J.caseB 8 (b := (decide (s63.2 < (x0.length : Int)))) (by kernel_rfl) (fun hb102 => ?_) (fun hb102 => ?_)
    · have h103 := condT hb102 hs100
      refine K.condT (by kernel_rfl) ?_
      refine K.skip (by kernel_rfl) ?_
      refine PJ.next ?_
      obtain ⟨s109, hy111, h113⟩ := bindS h103
      refine K.cutN (by kernel_rfl) (fun (s109 : Int) => ([(0, lsv (encI .u8) 1 x0), (2, .int .i64 0), (3, .int .i64 s109), (4, .int .i64 s63.2)], [])) s109 ?_ ?_
      · refine K.block 1 (by kernel_rfl) ?_
        refine K.seq (by kernel_rfl) ?_
        refine K.region (by kernel_rfl) ?_
        refine RJ.seg 2 [0, 2, 3, 4, 11, 12] (L2 := [(0, lsv (encI .u8) 1 x0), (2, .int .i64 0), (3, .int .i64 s63.1), (4, .int .i64 s63.2), (11, lsv (encI .u8) 1 x0), (12, .int .i64 s63.2)]) (H2 := []) (by kernel_rfl) ?_
        obtain ⟨hm, h114⟩ := asrt hy111
        refine RJ.rel (d := (some 13)) (ef := ⟨.ep (((x0.flatMap (encI .u8)).drop ((s63.2 : Int).toNat * 1)).take 1), [], []⟩) (ef' := ⟨.ep ((encI .u8) (nth x0 s63.2)), [], []⟩) (c := inR s63.2 x0.length) (tr2 := []) (H2 := []) (by kernel_rfl) hm (fun hc => N.idx (encI_len .u8) hc) (by kernel_rfl) ?_
        refine RJ.seg 2 [0, 2, 3, 4, 15] (L2 := [(0, lsv (encI .u8) 1 x0), (2, .int .i64 0), (3, .int .i64 s63.1), (4, .int .i64 s63.2), (15, .bool ((decide (¬ (nth x0 s63.2) = 0))))]) (H2 := []) (by kernel_rfl) ?_
        refine RJ.end (by kernel_rfl) ?_
        refine PJ.next ?_
        refine J.caseB 15 (b := (decide (¬ (nth x0 s63.2) = 0))) (by kernel_rfl) (fun hb115 => ?_) (fun hb115 => ?_)
        · have h116 := condT hb115 h114
          refine K.condT (by kernel_rfl) ?_
          refine K.region (by kernel_rfl) ?_
          refine RJ.seg 3 [0, 2, 3, 4] (L2 := [(0, lsv (encI .u8) 1 x0), (2, .int .i64 0), (3, .int .i64 (IntKind.wrap .i64 (s63.2 + 1))), (4, .int .i64 s63.2)]) (H2 := []) (by kernel_rfl) ?_
          refine RJ.end (by kernel_rfl) ?_
          refine PJ.blockNormal ?_
          obtain rfl := Option.some.inj h116
          exact PJ.cutN [0, 2, 3, 4] (by kernel_rfl) (by kernel_rfl)
        · have h117 := condF hb115 h114
          refine K.condF (by kernel_rfl) ?_
          refine K.skip (by kernel_rfl) ?_
          refine PJ.blockNormal ?_
          obtain rfl := Option.some.inj h117
          exact PJ.cutN [0, 2, 3, 4] (by kernel_rfl) (by kernel_rfl)
      · refine K.region (by kernel_rfl) ?_
        refine RJ.seg 3 [0, 2, 3, 4] (L2 := [(0, lsv (encI .u8) 1 x0), (2, .int .i64 0), (3, .int .i64 s109), (4, .int .i64 (IntKind.wrap .i64 (s63.2 + 1)))]) (H2 := []) (by kernel_rfl) ?_
        refine RJ.end (by kernel_rfl) ?_
        obtain rfl := Option.some.inj h113
        exact PJ.loopNext [0, 2, 3, 4] (by kernel_rfl) (by kernel_rfl)
    · have h104 := condF hb102 hs100
      refine K.condF (by kernel_rfl) ?_
      refine K.exit 0 (by kernel_rfl) ?_
      refine PJ.passExit ?_
      obtain rfl := Option.some.inj h104
      refine PJ.loopOut (fun e => nomatch e) (fun he119 => ?_)
      have h118 := congrArg some he119
      refine PJ.blockOut ?_
      obtain rfl := Option.some.inj h118
      exact PJ.cutN [2, 3] (by kernel_rfl) (by kernel_rfl)
  · refine K.seq (by kernel_rfl) ?_
    refine K.region (by kernel_rfl) ?_
    refine RJ.seg 2 [2] (L2 := [(2, .int .i64 s58)]) (H2 := []) (by kernel_rfl) ?_
    refine RJ.end (by kernel_rfl) ?_
    refine PJ.next ?_
    refine K.ret (by kernel_rfl) ?_
    obtain rfl := Option.some.inj h62
    exact K.ret0 (.inr rfl) hFn hFH hFD (by kernel_rfl) (by kernel_rfl) (by kernel_rfl)

def exergueref07_Of (x0 : List Int) (x1 : List Int) (x2 : Int) : Option (St23 × Int) :=
  (Option.bind (exergueref07_Figures x0) fun y1 => (Option.bind (exergueref07_Figures x1) fun y4 => (Option.bind (Option.bind (bif (!y1) then (some true) else (bif (!y4) then (some true) else (bif (decide (x2 < 0)) then (some true) else (some (decide (x2 > 1000)))))) fun (s48 : Bool) => (bif s48 then (some (.inr ((⟨([] : List Int), ([] : List Int), 0, 0⟩ : St23), 1))) else (some (.inl ())))) (joinX fun (s34 : Unit) => (Option.bind (exergueref07_Bare x0) fun y66 => (Option.bind (exergueref07_Full x1) fun y69 => (some ((⟨y66, x1, y69, x2⟩ : St23), 0))))))))
theorem exergueref07_Of_ok {x0 : List Int} {x1 : List Int} {x2 : Int} {r : St23 × Int} (h : exergueref07_Of x0 x1 x2 = some r) : SC Try.prog 13 [lsv (encI .u8) 1 x0, lsv (encI .u8) 1 x1, .int .i64 x2] [] (.tup [.agg [lsv (encI .u8) 1 r.1.I_, lsv (encI .u8) 1 r.1.F_, .int .i64 r.1.W_, .int .i64 r.1.C_], .int .i64 r.2]) [] := by
  refine K.fn (fn := Try.f13) (by kernel_rfl) (by kernel_rfl) (by kernel_rfl) (by kernel_rfl) (by kernel_rfl) (fun F hFn hFH hFD => ?_)
  unfold exergueref07_Of at h
  refine K.seq (by kernel_rfl) ?_
  refine K.region (by kernel_rfl) ?_
  refine RJ.seg 2 [0, 1, 2, 6, 7] (L2 := [(0, lsv (encI .u8) 1 x0), (1, lsv (encI .u8) 1 x1), (2, .int .i64 x2), (6, .ptr 0 0), (7, .int .i64 0)]) (H2 := [.box [.nl, .nl, .int .i64 0, .int .i64 0]]) (by kernel_rfl) ?_
  refine RJ.end (by kernel_rfl) ?_
  refine PJ.next ?_
  refine K.seq (by kernel_rfl) ?_
  refine K.region (by kernel_rfl) ?_
  refine RJ.seg 1 [0, 1, 2, 6, 7, 10] (L2 := [(0, lsv (encI .u8) 1 x0), (1, lsv (encI .u8) 1 x1), (2, .int .i64 x2), (6, .ptr 0 0), (7, .int .i64 0), (10, lsv (encI .u8) 1 x0)]) (H2 := [.box [.nl, .nl, .int .i64 0, .int .i64 0]]) (by kernel_rfl) ?_
  obtain ⟨y1, hy2, h3⟩ := bindS h
  refine RJ.call0 (d := (some 11)) (f := 21) (args := [lsv (encI .u8) 1 x0]) (v := .bool y1) (tr2 := []) (by kernel_rfl) (by kernel_rfl) (.cons (Le.refl _) .nil) (exergueref07_Figures_ok hy2) (by kernel_rfl) ?_
  refine RJ.seg 1 [0, 1, 2, 6, 7, 8] (L2 := [(0, lsv (encI .u8) 1 x0), (1, lsv (encI .u8) 1 x1), (2, .int .i64 x2), (6, .ptr 0 0), (7, .int .i64 0), (8, .bool y1)]) (H2 := [.box [.nl, .nl, .int .i64 0, .int .i64 0]]) (by kernel_rfl) ?_
  refine RJ.end (by kernel_rfl) ?_
  refine PJ.next ?_
  refine K.seq (by kernel_rfl) ?_
  refine K.region (by kernel_rfl) ?_
  refine RJ.seg 1 [0, 1, 2, 6, 7, 8, 12] (L2 := [(0, lsv (encI .u8) 1 x0), (1, lsv (encI .u8) 1 x1), (2, .int .i64 x2), (6, .ptr 0 0), (7, .int .i64 0), (8, .bool y1), (12, lsv (encI .u8) 1 x1)]) (H2 := [.box [.nl, .nl, .int .i64 0, .int .i64 0]]) (by kernel_rfl) ?_
  obtain ⟨y4, hy5, h6⟩ := bindS h3
  refine RJ.call0 (d := (some 13)) (f := 21) (args := [lsv (encI .u8) 1 x1]) (v := .bool y4) (tr2 := []) (by kernel_rfl) (by kernel_rfl) (.cons (Le.refl _) .nil) (exergueref07_Figures_ok hy5) (by kernel_rfl) ?_
  refine RJ.seg 1 [0, 1, 2, 6, 7, 8, 9] (L2 := [(0, lsv (encI .u8) 1 x0), (1, lsv (encI .u8) 1 x1), (2, .int .i64 x2), (6, .ptr 0 0), (7, .int .i64 0), (8, .bool y1), (9, .bool y4)]) (H2 := [.box [.nl, .nl, .int .i64 0, .int .i64 0]]) (by kernel_rfl) ?_
  refine RJ.end (by kernel_rfl) ?_
  refine PJ.next ?_
  obtain ⟨y35, hy36, h37⟩ := bindS h6
  refine K.cutX (by kernel_rfl) (fun (s34 : Unit) => ([(0, lsv (encI .u8) 1 x0), (1, lsv (encI .u8) 1 x1), (2, .int .i64 x2), (6, .ptr 0 0), (7, .int .i64 0)], [.box [.nl, .nl, .int .i64 0, .int .i64 0]])) y35 ?_ (fun s34 hs => ?_)
  · obtain ⟨s48, hy50, h52⟩ := bindS hy36
    refine K.cutN (by kernel_rfl) (fun (s48 : Bool) => ([(0, lsv (encI .u8) 1 x0), (1, lsv (encI .u8) 1 x1), (2, .int .i64 x2), (6, .ptr 0 0), (7, .int .i64 0), (27, .bool s48)], [.box [.nl, .nl, .int .i64 0, .int .i64 0]])) s48 ?_ ?_
    · refine K.region (by kernel_rfl) ?_
      refine RJ.seg 3 [0, 1, 2, 6, 7, 9, 16] (L2 := [(0, lsv (encI .u8) 1 x0), (1, lsv (encI .u8) 1 x1), (2, .int .i64 x2), (6, .ptr 0 0), (7, .int .i64 0), (9, .bool y4), (16, .bool (!y1))]) (H2 := [.box [.nl, .nl, .int .i64 0, .int .i64 0]]) (by kernel_rfl) ?_
      refine RJ.caseB 16 (b := (!y1)) (by kernel_rfl) (fun hb53 => ?_) (fun hb53 => ?_)
      · have h54 := condT hb53 hy50
        refine RJ.seg 11 [0, 1, 2, 6, 7, 27] (L2 := [(0, lsv (encI .u8) 1 x0), (1, lsv (encI .u8) 1 x1), (2, .int .i64 x2), (6, .ptr 0 0), (7, .int .i64 0), (27, .bool true)]) (H2 := [.box [.nl, .nl, .int .i64 0, .int .i64 0]]) (by kernel_rfl) ?_
        refine RJ.end (by kernel_rfl) ?_
        obtain rfl := Option.some.inj h54
        exact PJ.cutN [0, 1, 2, 6, 7, 27] (by kernel_rfl) (by kernel_rfl)
      · have h55 := condF hb53 hy50
        refine RJ.seg 4 [0, 1, 2, 6, 7, 20] (L2 := [(0, lsv (encI .u8) 1 x0), (1, lsv (encI .u8) 1 x1), (2, .int .i64 x2), (6, .ptr 0 0), (7, .int .i64 0), (20, .bool (!y4))]) (H2 := [.box [.nl, .nl, .int .i64 0, .int .i64 0]]) (by kernel_rfl) ?_
        refine RJ.caseB 20 (b := (!y4)) (by kernel_rfl) (fun hb56 => ?_) (fun hb56 => ?_)
        · have h57 := condT hb56 h55
          refine RJ.seg 7 [0, 1, 2, 6, 7, 27] (L2 := [(0, lsv (encI .u8) 1 x0), (1, lsv (encI .u8) 1 x1), (2, .int .i64 x2), (6, .ptr 0 0), (7, .int .i64 0), (27, .bool true)]) (H2 := [.box [.nl, .nl, .int .i64 0, .int .i64 0]]) (by kernel_rfl) ?_
          refine RJ.end (by kernel_rfl) ?_
          obtain rfl := Option.some.inj h57
          exact PJ.cutN [0, 1, 2, 6, 7, 27] (by kernel_rfl) (by kernel_rfl)
        · have h58 := condF hb56 h55
          refine RJ.seg 4 [0, 1, 2, 6, 7, 24] (L2 := [(0, lsv (encI .u8) 1 x0), (1, lsv (encI .u8) 1 x1), (2, .int .i64 x2), (6, .ptr 0 0), (7, .int .i64 0), (24, .bool (decide (x2 < 0)))]) (H2 := [.box [.nl, .nl, .int .i64 0, .int .i64 0]]) (by kernel_rfl) ?_
          refine RJ.caseB 24 (b := (decide (x2 < 0))) (by kernel_rfl) (fun hb59 => ?_) (fun hb59 => ?_)
          · have h60 := condT hb59 h58
            refine RJ.seg 3 [0, 1, 2, 6, 7, 27] (L2 := [(0, lsv (encI .u8) 1 x0), (1, lsv (encI .u8) 1 x1), (2, .int .i64 x2), (6, .ptr 0 0), (7, .int .i64 0), (27, .bool true)]) (H2 := [.box [.nl, .nl, .int .i64 0, .int .i64 0]]) (by kernel_rfl) ?_
            refine RJ.end (by kernel_rfl) ?_
            obtain rfl := Option.some.inj h60
            exact PJ.cutN [0, 1, 2, 6, 7, 27] (by kernel_rfl) (by kernel_rfl)
          · have h61 := condF hb59 h58
            refine RJ.seg 3 [0, 1, 2, 6, 7, 27] (L2 := [(0, lsv (encI .u8) 1 x0), (1, lsv (encI .u8) 1 x1), (2, .int .i64 x2), (6, .ptr 0 0), (7, .int .i64 0), (27, .bool (decide (x2 > 1000)))]) (H2 := [.box [.nl, .nl, .int .i64 0, .int .i64 0]]) (by kernel_rfl) ?_
            refine RJ.end (by kernel_rfl) ?_
            obtain rfl := Option.some.inj h61
            exact PJ.cutN [0, 1, 2, 6, 7, 27] (by kernel_rfl) (by kernel_rfl)
    · refine J.caseB 27 (b := s48) (by kernel_rfl) (fun hb62 => ?_) (fun hb62 => ?_)
      · have h63 := condT hb62 h52
        refine K.condT (by kernel_rfl) ?_
        refine K.seq (by kernel_rfl) ?_
        refine K.region (by kernel_rfl) ?_
        refine RJ.seg 3 [0, 1, 2, 6, 7] (L2 := [(0, lsv (encI .u8) 1 x0), (1, lsv (encI .u8) 1 x1), (2, .int .i64 x2), (6, .ptr 0 0), (7, .int .i64 1)]) (H2 := [.box [.nl, .nl, .int .i64 0, .int .i64 0]]) (by kernel_rfl) ?_
        refine RJ.end (by kernel_rfl) ?_
        refine PJ.next ?_
        refine K.ret (by kernel_rfl) ?_
        obtain rfl := Option.some.inj h63
        have h65 := joinX_inr h37
        refine PJ.cutXr (fun e => nomatch e) ?_
        obtain rfl := Option.some.inj h65
        refine PJ.res (v1 := .tup [.agg [.nl, .nl, .int .i64 0, .int .i64 0], .int .i64 1]) (Le.tup (.cons (Le.agg (.cons (Le.nl _) (.cons (Le.nl _) (.cons (Le.refl _) (.cons (Le.refl _) .nil))))) (.cons (Le.refl _) .nil))) ?_
        exact K.ret0 (.inr rfl) hFn hFH hFD (by kernel_rfl) (by kernel_rfl) (by kernel_rfl)
      · have h64 := condF hb62 h52
        refine K.condF (by kernel_rfl) ?_
        refine K.skip (by kernel_rfl) ?_
        obtain rfl := Option.some.inj h64
        exact PJ.cutXl [0, 1, 2, 6, 7] (by kernel_rfl) (by kernel_rfl)
  · subst hs
    have h38 := joinX_inl h37
    refine K.seq (by kernel_rfl) ?_
    refine K.region (by kernel_rfl) ?_
    refine RJ.seg 1 [1, 2, 6, 7, 29] (L2 := [(1, lsv (encI .u8) 1 x1), (2, .int .i64 x2), (6, .ptr 0 0), (7, .int .i64 0), (29, lsv (encI .u8) 1 x0)]) (H2 := [.box [.nl, .nl, .int .i64 0, .int .i64 0]]) (by kernel_rfl) ?_
    obtain ⟨y66, hy67, h68⟩ := bindS h38
    refine RJ.call0 (d := (some 30)) (f := 30) (args := [lsv (encI .u8) 1 x0]) (v := lsv (encI .u8) 1 y66) (tr2 := []) (by kernel_rfl) (by kernel_rfl) (.cons (Le.refl _) .nil) (exergueref07_Bare_ok hy67) (by kernel_rfl) ?_
    refine RJ.seg 2 [2, 6, 7, 30, 31, 32] (L2 := [(2, .int .i64 x2), (6, .ptr 0 0), (7, .int .i64 0), (30, lsv (encI .u8) 1 y66), (31, lsv (encI .u8) 1 x1), (32, lsv (encI .u8) 1 x1)]) (H2 := [.box [.nl, .nl, .int .i64 0, .int .i64 0]]) (by kernel_rfl) ?_
    obtain ⟨y69, hy70, h71⟩ := bindS h68
    refine RJ.call0 (d := (some 33)) (f := 31) (args := [lsv (encI .u8) 1 x1]) (v := .int .i64 y69) (tr2 := []) (by kernel_rfl) (by kernel_rfl) (.cons (Le.refl _) .nil) (exergueref07_Full_ok hy70) (by kernel_rfl) ?_
    refine RJ.seg 4 [6, 7] (L2 := [(6, .ptr 0 0), (7, .int .i64 0)]) (H2 := [.box [lsv (encI .u8) 1 y66, lsv (encI .u8) 1 x1, .int .i64 y69, .int .i64 x2]]) (by kernel_rfl) ?_
    refine RJ.end (by kernel_rfl) ?_
    refine PJ.next ?_
    refine K.ret (by kernel_rfl) ?_
    obtain rfl := Option.some.inj h71
    exact K.ret0 (.inr rfl) hFn hFH hFD (by kernel_rfl) (by kernel_rfl) (by kernel_rfl)

def exergueref07_Right (x0 : St23) : Option (Bool) :=
  (Option.bind (exergueref07_Figures x0.I_) fun y1 => (Option.bind (exergueref07_Figures x0.F_) fun y4 => (Option.bind (Option.bind (bif (!y1) then (some true) else (bif (!y4) then (some true) else (bif (decide ((x0.I_.length : Int) > 0)) then (bif inR 0 x0.I_.length then (some ((decide ((nth x0.I_ 0) = 0)))) else none) else (some false)))) fun (s51 : Bool) => (bif s51 then (some (.inr false)) else (some (.inl ())))) (joinX fun (s36 : Unit) => (Option.bind (Option.bind (exergueref07_Full x0.F_) fun y84 => (bif (decide (x0.W_ = y84)) then (bif (decide (x0.C_ ≥ 0)) then (some (decide (x0.C_ ≤ 1000))) else (some false)) else (some false))) fun (s79 : Bool) => (some s79))))))
theorem exergueref07_Right_ok {x0 : St23} {r : Bool} (h : exergueref07_Right x0 = some r) : SC Try.prog 14 [.agg [lsv (encI .u8) 1 x0.I_, lsv (encI .u8) 1 x0.F_, .int .i64 x0.W_, .int .i64 x0.C_]] [] (.bool r) [] := by
  refine K.fn (fn := Try.f14) (by kernel_rfl) (by kernel_rfl) (by kernel_rfl) (by kernel_rfl) (by kernel_rfl) (fun F hFn hFH hFD => ?_)
  unfold exergueref07_Right at h
  refine K.seq (by kernel_rfl) ?_
  refine K.region (by kernel_rfl) ?_
  refine RJ.seg 2 [1, 2] (L2 := [(1, .ptr 0 0), (2, .bool false)]) (H2 := [.box [lsv (encI .u8) 1 x0.I_, lsv (encI .u8) 1 x0.F_, .int .i64 x0.W_, .int .i64 x0.C_]]) (by kernel_rfl) ?_
  refine RJ.end (by kernel_rfl) ?_
  refine PJ.next ?_
  refine K.seq (by kernel_rfl) ?_
  refine K.region (by kernel_rfl) ?_
  refine RJ.seg 2 [1, 2, 6] (L2 := [(1, .ptr 0 0), (2, .bool false), (6, lsv (encI .u8) 1 x0.I_)]) (H2 := [.box [lsv (encI .u8) 1 x0.I_, lsv (encI .u8) 1 x0.F_, .int .i64 x0.W_, .int .i64 x0.C_]]) (by kernel_rfl) ?_
  obtain ⟨y1, hy2, h3⟩ := bindS h
  refine RJ.call0 (d := (some 7)) (f := 21) (args := [lsv (encI .u8) 1 x0.I_]) (v := .bool y1) (tr2 := []) (by kernel_rfl) (by kernel_rfl) (.cons (Le.refl _) .nil) (exergueref07_Figures_ok hy2) (by kernel_rfl) ?_
  refine RJ.seg 1 [1, 2, 3] (L2 := [(1, .ptr 0 0), (2, .bool false), (3, .bool y1)]) (H2 := [.box [lsv (encI .u8) 1 x0.I_, lsv (encI .u8) 1 x0.F_, .int .i64 x0.W_, .int .i64 x0.C_]]) (by kernel_rfl) ?_
  refine RJ.end (by kernel_rfl) ?_
  refine PJ.next ?_
  refine K.seq (by kernel_rfl) ?_
  refine K.region (by kernel_rfl) ?_
  refine RJ.seg 2 [1, 2, 3, 9] (L2 := [(1, .ptr 0 0), (2, .bool false), (3, .bool y1), (9, lsv (encI .u8) 1 x0.F_)]) (H2 := [.box [lsv (encI .u8) 1 x0.I_, lsv (encI .u8) 1 x0.F_, .int .i64 x0.W_, .int .i64 x0.C_]]) (by kernel_rfl) ?_
  obtain ⟨y4, hy5, h6⟩ := bindS h3
  refine RJ.call0 (d := (some 10)) (f := 21) (args := [lsv (encI .u8) 1 x0.F_]) (v := .bool y4) (tr2 := []) (by kernel_rfl) (by kernel_rfl) (.cons (Le.refl _) .nil) (exergueref07_Figures_ok hy5) (by kernel_rfl) ?_
  refine RJ.seg 1 [1, 2, 3, 4] (L2 := [(1, .ptr 0 0), (2, .bool false), (3, .bool y1), (4, .bool y4)]) (H2 := [.box [lsv (encI .u8) 1 x0.I_, lsv (encI .u8) 1 x0.F_, .int .i64 x0.W_, .int .i64 x0.C_]]) (by kernel_rfl) ?_
  refine RJ.end (by kernel_rfl) ?_
  refine PJ.next ?_
  obtain ⟨y37, hy38, h39⟩ := bindS h6
  refine K.cutX (by kernel_rfl) (fun (s36 : Unit) => ([(1, .ptr 0 0), (2, .bool false)], [.box [lsv (encI .u8) 1 x0.I_, lsv (encI .u8) 1 x0.F_, .int .i64 x0.W_, .int .i64 x0.C_]])) y37 ?_ (fun s36 hs => ?_)
  · obtain ⟨s51, hy53, h55⟩ := bindS hy38
    refine K.cutN (by kernel_rfl) (fun (s51 : Bool) => ([(1, .ptr 0 0), (2, .bool false), (29, .bool s51)], [.box [lsv (encI .u8) 1 x0.I_, lsv (encI .u8) 1 x0.F_, .int .i64 x0.W_, .int .i64 x0.C_]])) s51 ?_ ?_
    · refine K.region (by kernel_rfl) ?_
      refine RJ.seg 3 [1, 2, 4, 13] (L2 := [(1, .ptr 0 0), (2, .bool false), (4, .bool y4), (13, .bool (!y1))]) (H2 := [.box [lsv (encI .u8) 1 x0.I_, lsv (encI .u8) 1 x0.F_, .int .i64 x0.W_, .int .i64 x0.C_]]) (by kernel_rfl) ?_
      refine RJ.caseB 13 (b := (!y1)) (by kernel_rfl) (fun hb56 => ?_) (fun hb56 => ?_)
      · have h57 := condT hb56 hy53
        refine RJ.seg 16 [1, 2, 29] (L2 := [(1, .ptr 0 0), (2, .bool false), (29, .bool true)]) (H2 := [.box [lsv (encI .u8) 1 x0.I_, lsv (encI .u8) 1 x0.F_, .int .i64 x0.W_, .int .i64 x0.C_]]) (by kernel_rfl) ?_
        refine RJ.end (by kernel_rfl) ?_
        obtain rfl := Option.some.inj h57
        exact PJ.cutN [1, 2, 29] (by kernel_rfl) (by kernel_rfl)
      · have h58 := condF hb56 hy53
        refine RJ.seg 4 [1, 2, 17] (L2 := [(1, .ptr 0 0), (2, .bool false), (17, .bool (!y4))]) (H2 := [.box [lsv (encI .u8) 1 x0.I_, lsv (encI .u8) 1 x0.F_, .int .i64 x0.W_, .int .i64 x0.C_]]) (by kernel_rfl) ?_
        refine RJ.caseB 17 (b := (!y4)) (by kernel_rfl) (fun hb59 => ?_) (fun hb59 => ?_)
        · have h60 := condT hb59 h58
          refine RJ.seg 12 [1, 2, 29] (L2 := [(1, .ptr 0 0), (2, .bool false), (29, .bool true)]) (H2 := [.box [lsv (encI .u8) 1 x0.I_, lsv (encI .u8) 1 x0.F_, .int .i64 x0.W_, .int .i64 x0.C_]]) (by kernel_rfl) ?_
          refine RJ.end (by kernel_rfl) ?_
          obtain rfl := Option.some.inj h60
          exact PJ.cutN [1, 2, 29] (by kernel_rfl) (by kernel_rfl)
        · have h61 := condF hb59 h58
          refine RJ.seg 5 [1, 2, 17, 22] (L2 := [(1, .ptr 0 0), (2, .bool false), (17, .bool false), (22, .bool ((decide ((x0.I_.length : Int) > 0))))]) (H2 := [.box [lsv (encI .u8) 1 x0.I_, lsv (encI .u8) 1 x0.F_, .int .i64 x0.W_, .int .i64 x0.C_]]) (by kernel_rfl) ?_
          refine RJ.caseB 22 (b := (decide ((x0.I_.length : Int) > 0))) (by kernel_rfl) (fun hb62 => ?_) (fun hb62 => ?_)
          · have h63 := condT hb62 h61
            refine RJ.seg 2 [1, 2, 17, 22, 24] (L2 := [(1, .ptr 0 0), (2, .bool false), (17, .bool false), (22, .bool true), (24, lsv (encI .u8) 1 x0.I_)]) (H2 := [.box [lsv (encI .u8) 1 x0.I_, lsv (encI .u8) 1 x0.F_, .int .i64 x0.W_, .int .i64 x0.C_]]) (by kernel_rfl) ?_
            obtain ⟨hm, h65⟩ := asrt h63
            refine RJ.rel (d := (some 25)) (ef := ⟨.ep (((x0.I_.flatMap (encI .u8)).drop ((0 : Int).toNat * 1)).take 1), [], []⟩) (ef' := ⟨.ep ((encI .u8) (nth x0.I_ 0)), [], []⟩) (c := inR 0 x0.I_.length) (tr2 := []) (H2 := [.box [lsv (encI .u8) 1 x0.I_, lsv (encI .u8) 1 x0.F_, .int .i64 x0.W_, .int .i64 x0.C_]]) (by kernel_rfl) hm (fun hc => N.idx (encI_len .u8) hc) (by kernel_rfl) ?_
            refine RJ.seg 4 [1, 2, 29] (L2 := [(1, .ptr 0 0), (2, .bool false), (29, .bool ((decide ((nth x0.I_ 0) = 0))))]) (H2 := [.box [lsv (encI .u8) 1 x0.I_, lsv (encI .u8) 1 x0.F_, .int .i64 x0.W_, .int .i64 x0.C_]]) (by kernel_rfl) ?_
            refine RJ.end (by kernel_rfl) ?_
            obtain rfl := Option.some.inj h65
            exact PJ.cutN [1, 2, 29] (by kernel_rfl) (by kernel_rfl)
          · have h64 := condF hb62 h61
            refine RJ.seg 7 [1, 2, 29] (L2 := [(1, .ptr 0 0), (2, .bool false), (29, .bool false)]) (H2 := [.box [lsv (encI .u8) 1 x0.I_, lsv (encI .u8) 1 x0.F_, .int .i64 x0.W_, .int .i64 x0.C_]]) (by kernel_rfl) ?_
            refine RJ.end (by kernel_rfl) ?_
            obtain rfl := Option.some.inj h64
            exact PJ.cutN [1, 2, 29] (by kernel_rfl) (by kernel_rfl)
    · refine J.caseB 29 (b := s51) (by kernel_rfl) (fun hb66 => ?_) (fun hb66 => ?_)
      · have h67 := condT hb66 h55
        refine K.condT (by kernel_rfl) ?_
        refine K.seq (by kernel_rfl) ?_
        refine K.region (by kernel_rfl) ?_
        refine RJ.seg 1 [1, 2] (L2 := [(1, .ptr 0 0), (2, .bool false)]) (H2 := [.box [lsv (encI .u8) 1 x0.I_, lsv (encI .u8) 1 x0.F_, .int .i64 x0.W_, .int .i64 x0.C_]]) (by kernel_rfl) ?_
        refine RJ.end (by kernel_rfl) ?_
        refine PJ.next ?_
        refine K.ret (by kernel_rfl) ?_
        obtain rfl := Option.some.inj h67
        have h69 := joinX_inr h39
        refine PJ.cutXr (fun e => nomatch e) ?_
        obtain rfl := Option.some.inj h69
        exact K.ret0 (.inr rfl) hFn hFH hFD (by kernel_rfl) (by kernel_rfl) (by kernel_rfl)
      · have h68 := condF hb66 h55
        refine K.condF (by kernel_rfl) ?_
        refine K.skip (by kernel_rfl) ?_
        obtain rfl := Option.some.inj h68
        exact PJ.cutXl [1, 2] (by kernel_rfl) (by kernel_rfl)
  · subst hs
    have h40 := joinX_inl h39
    obtain ⟨s79, hy81, h83⟩ := bindS h40
    refine K.cutN (by kernel_rfl) (fun (s79 : Bool) => ([(2, .bool s79)], [])) s79 ?_ ?_
    · refine J.keep [1, 2] (L2 := [(1, .ptr 0 0), (2, .bool false)]) (by kernel_rfl) ?_
      refine K.draw (by kernel_rfl) (by kernel_rfl) (by kernel_rfl) (H2 := [.box [lsv (encI .u8) 1 x0.I_, lsv (encI .u8) 1 x0.F_, .int .i64 x0.W_, .int .i64 x0.C_], .res]) (by kernel_rfl) (n := 1) (by kernel_rfl) ?_
      refine RJ.segD 4 (tr2 := [([], []), ([0, 1], []), ([], []), ([0, 1], [])]) (L2 := [(33, lsv (encI .u8) 1 x0.F_), (32, .ptr 0 1), (31, .int .i64 x0.W_), (30, .ptr 0 2), (1, .ptr 0 0), (2, .bool false)]) (H2 := [.box [lsv (encI .u8) 1 x0.I_, lsv (encI .u8) 1 x0.F_, .int .i64 x0.W_, .int .i64 x0.C_], .res]) (by kernel_rfl) ?_
      obtain ⟨y84, hy85, h86⟩ := bindS hy81
      refine RJ.call0 (d := (some 34)) (f := 31) (args := [lsv (encI .u8) 1 x0.F_]) (v := .int .i64 y84) (tr2 := [([], []), ([0, 1], []), ([], []), ([0, 1], []), ([], [2, 3])]) (by kernel_rfl) (by kernel_rfl) (.cons (Le.refl _) .nil) (exergueref07_Full_ok hy85) (by kernel_rfl) ?_
      refine RJ.segD 2 (tr2 := [([], []), ([0, 1], []), ([], []), ([0, 1], []), ([], [2, 3]), ([], []), ([], [])]) (L2 := [(36, .bool (decide (x0.W_ = y84))), (35, .bool (decide (x0.W_ = y84))), (34, .int .i64 y84), (33, lsv (encI .u8) 1 x0.F_), (32, .ptr 0 1), (31, .int .i64 x0.W_), (30, .ptr 0 2), (1, .ptr 0 0), (2, .bool false)]) (H2 := [.box [lsv (encI .u8) 1 x0.I_, lsv (encI .u8) 1 x0.F_, .int .i64 x0.W_, .int .i64 x0.C_], .res]) (by kernel_rfl) ?_
      refine RJ.caseB 36 (b := (decide (x0.W_ = y84))) (by kernel_rfl) (fun hb87 => ?_) (fun hb87 => ?_)
      · have h88 := condT hb87 h86
        refine RJ.segD 5 (tr2 := [([], []), ([0, 1], []), ([], []), ([0, 1], []), ([], [2, 3]), ([], []), ([], []), ([], []), ([0, 1], []), ([], []), ([], []), ([], [])]) (L2 := [(41, .bool (decide (x0.C_ ≥ 0))), (40, .bool (decide (x0.C_ ≥ 0))), (39, .bool (decide (x0.C_ ≥ 0))), (38, .int .i64 x0.C_), (37, .ptr 0 3), (36, .bool true), (36, .bool (decide (x0.W_ = y84))), (35, .bool (decide (x0.W_ = y84))), (34, .int .i64 y84), (33, lsv (encI .u8) 1 x0.F_), (32, .ptr 0 1), (31, .int .i64 x0.W_), (30, .ptr 0 2), (1, .ptr 0 0), (2, .bool false)]) (H2 := [.box [lsv (encI .u8) 1 x0.I_, lsv (encI .u8) 1 x0.F_, .int .i64 x0.W_, .int .i64 x0.C_], .res]) (by kernel_rfl) ?_
        refine RJ.caseB 41 (b := (decide (x0.C_ ≥ 0))) (by kernel_rfl) (fun hb90 => ?_) (fun hb90 => ?_)
        · have h91 := condT hb90 h88
          refine RJ.segD 5 (tr2 := [([], []), ([0, 1], []), ([], []), ([0, 1], []), ([], [2, 3]), ([], []), ([], []), ([], []), ([0, 1], []), ([], []), ([], []), ([], []), ([], []), ([0, 1], []), ([], []), ([], []), ([], [])]) (L2 := [(2, .bool (decide (x0.C_ ≤ 1000))), (45, .bool (decide (x0.C_ ≤ 1000))), (44, .bool (decide (x0.C_ ≤ 1000))), (43, .int .i64 x0.C_), (42, .ptr 0 3), (41, .bool true), (41, .bool (decide (x0.C_ ≥ 0))), (40, .bool (decide (x0.C_ ≥ 0))), (39, .bool (decide (x0.C_ ≥ 0))), (38, .int .i64 x0.C_), (37, .ptr 0 3), (36, .bool true), (36, .bool (decide (x0.W_ = y84))), (35, .bool (decide (x0.W_ = y84))), (34, .int .i64 y84), (33, lsv (encI .u8) 1 x0.F_), (32, .ptr 0 1), (31, .int .i64 x0.W_), (30, .ptr 0 2), (1, .ptr 0 0), (2, .bool false)]) (H2 := [.box [lsv (encI .u8) 1 x0.I_, lsv (encI .u8) 1 x0.F_, .int .i64 x0.W_, .int .i64 x0.C_], .res]) (by kernel_rfl) ?_
          refine RJ.end (by kernel_rfl) ?_
          obtain rfl := Option.some.inj h91
          refine PJ.wk (Wk.sel (L2 := [(2, .bool (decide (x0.C_ ≤ 1000)))]) (H2 := []) 0 (by rw [hFH]; rfl) hFD [] (by kernel_rfl) (by kernel_rfl) (by decide) (by kernel_rfl) (by kernel_rfl) (by kernel_rfl) (by kernel_rfl)) ?_
          exact PJ.cutN [2] (by kernel_rfl) (by kernel_rfl)
        · have h92 := condF hb90 h88
          refine RJ.segD 5 (tr2 := [([], []), ([0, 1], []), ([], []), ([0, 1], []), ([], [2, 3]), ([], []), ([], []), ([], []), ([0, 1], []), ([], []), ([], []), ([], []), ([], []), ([], []), ([], []), ([], []), ([], [])]) (L2 := [(2, .bool false), (45, .bool false), (44, .tup []), (43, .tup []), (42, .tup []), (41, .bool false), (41, .bool (decide (x0.C_ ≥ 0))), (40, .bool (decide (x0.C_ ≥ 0))), (39, .bool (decide (x0.C_ ≥ 0))), (38, .int .i64 x0.C_), (37, .ptr 0 3), (36, .bool true), (36, .bool (decide (x0.W_ = y84))), (35, .bool (decide (x0.W_ = y84))), (34, .int .i64 y84), (33, lsv (encI .u8) 1 x0.F_), (32, .ptr 0 1), (31, .int .i64 x0.W_), (30, .ptr 0 2), (1, .ptr 0 0), (2, .bool false)]) (H2 := [.box [lsv (encI .u8) 1 x0.I_, lsv (encI .u8) 1 x0.F_, .int .i64 x0.W_, .int .i64 x0.C_], .res]) (by kernel_rfl) ?_
          refine RJ.end (by kernel_rfl) ?_
          obtain rfl := Option.some.inj h92
          refine PJ.wk (Wk.sel (L2 := [(2, .bool false)]) (H2 := []) 0 (by rw [hFH]; rfl) hFD [] (by kernel_rfl) (by kernel_rfl) (by decide) (by kernel_rfl) (by kernel_rfl) (by kernel_rfl) (by kernel_rfl)) ?_
          exact PJ.cutN [2] (by kernel_rfl) (by kernel_rfl)
      · have h89 := condF hb87 h86
        refine RJ.segD 10 (tr2 := [([], []), ([0, 1], []), ([], []), ([0, 1], []), ([], [2, 3]), ([], []), ([], []), ([], []), ([], []), ([], []), ([], []), ([], []), ([], []), ([], []), ([], []), ([], []), ([], [])]) (L2 := [(2, .bool false), (45, .bool false), (44, .tup []), (43, .tup []), (42, .tup []), (41, .bool false), (40, .bool false), (39, .tup []), (38, .tup []), (37, .tup []), (36, .bool false), (36, .bool (decide (x0.W_ = y84))), (35, .bool (decide (x0.W_ = y84))), (34, .int .i64 y84), (33, lsv (encI .u8) 1 x0.F_), (32, .ptr 0 1), (31, .int .i64 x0.W_), (30, .ptr 0 2), (1, .ptr 0 0), (2, .bool false)]) (H2 := [.box [lsv (encI .u8) 1 x0.I_, lsv (encI .u8) 1 x0.F_, .int .i64 x0.W_, .int .i64 x0.C_], .res]) (by kernel_rfl) ?_
        refine RJ.end (by kernel_rfl) ?_
        obtain rfl := Option.some.inj h89
        refine PJ.wk (Wk.sel (L2 := [(2, .bool false)]) (H2 := []) 0 (by rw [hFH]; rfl) hFD [] (by kernel_rfl) (by kernel_rfl) (by decide) (by kernel_rfl) (by kernel_rfl) (by kernel_rfl) (by kernel_rfl)) ?_
        exact PJ.cutN [2] (by kernel_rfl) (by kernel_rfl)
    · refine K.ret (by kernel_rfl) ?_
      obtain rfl := Option.some.inj h83
      exact K.ret0 (.inr rfl) hFn hFH hFD (by kernel_rfl) (by kernel_rfl) (by kernel_rfl)

end Go.Proofs.Ytddkgejgocahjaa
