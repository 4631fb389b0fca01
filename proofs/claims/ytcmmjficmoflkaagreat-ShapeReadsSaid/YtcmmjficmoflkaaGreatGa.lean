/-
  What the functions of this program come to, as functions of natives, each with the proof that it does. No conditions.
-/
import Derived.Test.YtcmmjficmoflkaaGreatProg
import Derived.Test.YtcmmjficmoflkaaGreatSyV
namespace Go.Proofs.YtcmmjficmoflkaaGreat
open Go Go.Sy Go.RowKit
set_option linter.unusedVariables false
set_option linter.unusedSimpArgs false
set_option maxRecDepth 100000
set_option maxHeartbeats 4000000

structure St22 where
 Zero_ : Int
 Dec_ : Int
 Group_ : Int
 Minus_ : Int
 Plus_ : Int
 Percent_ : Int
 Exp_ : Int
 deriving Inhabited, DecidableEq
def encSt22 (x : St22) : List SV := [.int .i32 x.Zero_, .int .i32 x.Dec_, .int .i32 x.Group_, .int .i32 x.Minus_, .int .i32 x.Plus_, .int .i32 x.Percent_, .int .i32 x.Exp_]
theorem encSt22_len (x : St22) : (encSt22 x).length = 7 := rfl

structure St106 where
 Kind_ : Int
 R_ : Int
 deriving Inhabited, DecidableEq
def encSt106 (x : St106) : List SV := [.int .i64 x.Kind_, .int .i32 x.R_]
theorem encSt106_len (x : St106) : (encSt106 x).length = 2 := rfl

structure St25 where
 Pre_ : List St106
 Suf_ : List St106
 NPre_ : List St106
 NSuf_ : List St106
 Neg_ : Bool
 Hash_ : Int
 MinInt_ : Int
 MinFrac_ : Int
 MaxFrac_ : Int
 G1_ : Int
 G2_ : Int
 MinSig_ : Int
 MaxSig_ : Int
 Exp_ : Int
 ExpPlus_ : Bool
 Pad_ : Int
 PadAt_ : Int
 deriving Inhabited, DecidableEq
def encSt25 (x : St25) : List SV := [lsv encSt106 2 x.Pre_, lsv encSt106 2 x.Suf_, lsv encSt106 2 x.NPre_, lsv encSt106 2 x.NSuf_, .bool x.Neg_, .int .i64 x.Hash_, .int .i64 x.MinInt_, .int .i64 x.MinFrac_, .int .i64 x.MaxFrac_, .int .i64 x.G1_, .int .i64 x.G2_, .int .i64 x.MinSig_, .int .i64 x.MaxSig_, .int .i64 x.Exp_, .bool x.ExpPlus_, .int .i32 x.Pad_, .int .i64 x.PadAt_]
theorem encSt25_len (x : St25) : (encSt25 x).length = 17 := rfl

def exerguelaw17_latin  : Option (St22) :=
 (some (⟨48, 46, 44, 45, 43, 37, 69⟩ : St22))
theorem exerguelaw17_latin_ok  {r : St22} (h : exerguelaw17_latin = some r) : SC Tryz.prog 20 [] [] (.agg (encSt22 r)) [] := by
 refine kFn (fn := Tryz.f20) (fun F hFn hFH hFD => ?_)
 unfold exerguelaw17_latin at h
 refine kSR ?_
 refine kC 1 [0] ?_
 refine kEN ?_
 refine kSR ?_
 refine kC 2 [0] ?_
 refine kEN ?_
 refine kX ?_
 obtain rfl := oi h
 exact kZ hFn hFH hFD

structure St28 where
 Neg_ : Bool
 D_ : List Int
 E_ : Int
 deriving Inhabited, DecidableEq
def encSt28 (x : St28) : List SV := [.bool x.Neg_, lsv (encI .u8) 1 x.D_, .int .i64 x.E_]
theorem encSt28_len (x : St28) : (encSt28 x).length = 3 := rfl

def dec_figures (x0 : List Int) : Option (Bool) :=
 (Option.bind (loopN (fun (s45 : Int) => (bif (decide (s45 < (x0.length : Int))) then (bif inR s45 x0.length then (bif (decide ((nth x0 s45) > 9)) then (some (.inr (.inr false))) else (some (.inl (IntKind.wrap .i64 (s45 + 1))))) else none) else (some (.inr (.inl ()))))) big 0) (joinX fun (s40 : Unit) => (some true)))
theorem dec_figures_ok {x0 : List Int} {r : Bool} (h : dec_figures x0 = some r) : SC Tryz.prog 68 [lsv (encI .u8) 1 x0] [] (.bool r) [] := by
 refine kFn (fn := Tryz.f68) (fun F hFn hFH hFD => ?_)
 unfold dec_figures at h
 refine kSR ?_
 refine kC 1 [0,2] ?_
 refine kEN ?_
 obtain ⟨y41, hy42, h43⟩ := bindS h
 refine K.cutX (by kernel_rfl) (fun (s40 : Unit) => ([(2, .bool false)], [])) y41 ?_ (fun s40 hs => ?_)
 ·refine kSR ?_
  refine kC 3 [2,5,6,7] ?_
  refine kEN ?_
  refine K.block 0 (by kernel_rfl) ?_
  refine K.loop (by kernel_rfl) (fun (s45 : Int) => ([(2, .bool false), (5, lsv (encI .u8) 1 x0), (6, .int .i64 (x0.length : Int)), (7, .int .i64 s45)], [])) hy42 [2, 5, 6, 7] (by kernel_rfl) (by kernel_rfl) (fun s45 x71 hs70 => ?_)
  refine kSR ?_
  refine kC 1 [2,5,6,7,8] ?_
  refine kEN ?_
  refine kS ?_
  refine J.caseB 8 (b := (decide (s45 < (x0.length : Int)))) (by kernel_rfl) (fun hb72 => ?_) (fun hb72 => ?_)
  ·have h73 := condT hb72 hs70
   refine kT ?_
   refine kK ?_
   refine PJ.next ?_
   refine kS ?_
   refine K.block 1 (by kernel_rfl) ?_
   refine kSR ?_
   obtain ⟨hm, h75⟩ := asrt h73
   refine RJ.rel (d := (some 9)) (ef := ⟨.ep (((x0.flatMap (encI .u8)).drop ((s45 : Int).toNat * 1)).take 1), [], []⟩) (ef' := ⟨.ep ((encI .u8) (nth x0 s45)), [], []⟩) (c := inR s45 x0.length) (tr2 := []) (H2 := []) (by kernel_rfl) hm (fun hc => N.idx (encI_len .u8) hc) (by kernel_rfl) ?_
   refine kC 2 [2,4,5,6,7] ?_
   refine kEN ?_
   refine kSR ?_
   refine kC 2 [2,5,6,7,12] ?_
   refine kEN ?_
   refine J.caseB 12 (b := (decide ((nth x0 s45) > 9))) (by kernel_rfl) (fun hb76 => ?_) (fun hb76 => ?_)
   ·have h77 := condT hb76 h75
    refine kT ?_
    refine kSR ?_
    refine RJ.seg 1 [2, 5, 6, 7] (L2 := [(2, .bool false), (5, lsv (encI .u8) 1 x0), (6, .int .i64 (x0.length : Int)), (7, .int .i64 s45)]) (H2 := []) (by kernel_rfl) ?_
    refine kEN ?_
    refine kX ?_
    refine PJ.blockRet ?_
    refine PJ.passRet ?_
    obtain rfl := oi h77
    refine PJ.loopOut (fun e => nomatch e) (fun he81 => ?_)
    have h79 := congrArg some he81
    refine PJ.blockRet ?_
    obtain rfl := oi h79
    have h80 := joinX_inr h43
    refine PJ.cutXr (fun e => nomatch e) ?_
    obtain rfl := oi h80
    exact kZ hFn hFH hFD
   ·have h78 := condF hb76 h75
    refine kF ?_
    refine kK ?_
    refine PJ.blockNormal ?_
    refine PJ.next ?_
    refine kR ?_
    refine RJ.seg 2 [2, 5, 6, 7] (L2 := [(2, .bool false), (5, lsv (encI .u8) 1 x0), (6, .int .i64 (x0.length : Int)), (7, .int .i64 (IntKind.wrap .i64 (s45 + 1)))]) (H2 := []) (by kernel_rfl) ?_
    refine kE ?_
    obtain rfl := oi h78
    exact PJ.loopNext [2, 5, 6, 7] (by kernel_rfl) (by kernel_rfl)
  ·have h74 := condF hb72 hs70
   refine kF ?_
   refine K.exit 0 (by kernel_rfl) ?_
   refine PJ.passExit ?_
   obtain rfl := oi h74
   refine PJ.loopOut (fun e => nomatch e) (fun he83 => ?_)
   have h82 := congrArg some he83
   refine PJ.blockOut ?_
   obtain rfl := oi h82
   exact PJ.cutXl [2] (by kernel_rfl) (by kernel_rfl)
 ·subst hs
  have h44 := joinX_inl h43
  refine kSR ?_
  refine kC 1 [2] ?_
  refine kEN ?_
  refine kX ?_
  obtain rfl := oi h44
  exact kZ hFn hFH hFD

def dec_Right (x0 : St28) : Option (Bool) :=
 (bif (decide ((x0.D_.length : Int) = 0)) then (some (decide (x0.E_ = 0))) else (Option.bind (Option.bind (bif (decide ((x0.D_.length : Int) > 1000)) then (some true) else (bif (decide (x0.E_ < (-1000))) then (some true) else (some (decide (x0.E_ > 1000))))) fun (s36 : Bool) => (bif s36 then (some (.inr false)) else (some (.inl ())))) (joinX fun (s25 : Unit) => (Option.bind (bif inR 0 x0.D_.length then (bif (decide (¬ (nth x0.D_ 0) = 0)) then (bif inR ((IntKind.wrap .i64 ((x0.D_.length : Int) - 1))) x0.D_.length then (bif (decide (¬ ((nth x0.D_ ((IntKind.wrap .i64 ((x0.D_.length : Int) - 1))))) = 0)) then (Option.bind (dec_figures x0.D_) fun y75 => (some y75)) else (some false)) else none) else (some false)) else none) fun (s62 : Bool) => (some s62)))))
theorem dec_Right_ok {x0 : St28} {r : Bool} (h : dec_Right x0 = some r) : SC Tryz.prog 32 [.agg (encSt28 x0)] [] (.bool r) [] := by
 refine kFn (fn := Tryz.f32) (fun F hFn hFH hFD => ?_)
 unfold dec_Right at h
 refine kSR ?_
 refine kC 2 [1,2] ?_
 refine kEN ?_
 refine kSR ?_
 refine kC 4 [1,2,3] ?_
 refine kEN ?_
 refine kS ?_
 refine kSR ?_
 refine kC 2 [1,2,3,8] ?_
 refine kEN ?_
 refine J.caseB 8 (b := (decide ((x0.D_.length : Int) = 0))) (by kernel_rfl) (fun hb1 => ?_) (fun hb1 => ?_)
 ·have h2 := condT hb1 h
  refine kT ?_
  refine kSR ?_
  refine RJ.seg 4 [1, 2, 3] (L2 := [(1, .ptr 0 0), (2, .bool (decide (x0.E_ = 0))), (3, .int .i64 (x0.D_.length : Int))]) (H2 := [.box (encSt28 x0)]) (by kernel_rfl) ?_
  refine kEN ?_
  refine kX ?_
  refine PJ.passRet ?_
  obtain rfl := oi h2
  exact kZ hFn hFH hFD
 ·have h3 := condF hb1 h
  refine kF ?_
  refine kK ?_
  refine PJ.next ?_
  obtain ⟨y26, hy27, h28⟩ := bindS h3
  refine K.cutX (by kernel_rfl) (fun (s25 : Unit) => ([(1, .ptr 0 0), (2, .bool false), (3, .int .i64 (x0.D_.length : Int))], [.box (encSt28 x0)])) y26 ?_ (fun s25 hs => ?_)
  ·obtain ⟨s36, hy38, h40⟩ := bindS hy27
   refine K.cutN (by kernel_rfl) (fun (s36 : Bool) => ([(1, .ptr 0 0), (2, .bool false), (3, .int .i64 (x0.D_.length : Int)), (23, .bool s36)], [.box (encSt28 x0)])) s36 ?_ ?_
   ·refine kR ?_
    refine RJ.seg 3 [1, 2, 3, 14] (L2 := [(1, .ptr 0 0), (2, .bool false), (3, .int .i64 (x0.D_.length : Int)), (14, .bool ((decide ((x0.D_.length : Int) > 1000))))]) (H2 := [.box (encSt28 x0)]) (by kernel_rfl) ?_
    refine RJ.caseB 14 (b := (decide ((x0.D_.length : Int) > 1000))) (by kernel_rfl) (fun hb41 => ?_) (fun hb41 => ?_)
    ·have h42 := condT hb41 hy38
     refine kC 9 [1,2,3,23] ?_
     refine kE ?_
     obtain rfl := oi h42
     exact kN [1, 2, 3, 23]
    ·have h43 := condF hb41 hy38
     refine kC 5 [1,2,3,19] ?_
     refine RJ.caseB 19 (b := (decide (x0.E_ < (-1000)))) (by kernel_rfl) (fun hb44 => ?_) (fun hb44 => ?_)
     ·have h45 := condT hb44 h43
      refine kC 4 [1,2,3,23] ?_
      refine kE ?_
      obtain rfl := oi h45
      exact kN [1, 2, 3, 23]
     ·have h46 := condF hb44 h43
      refine kC 4 [1,2,3,23] ?_
      refine kE ?_
      obtain rfl := oi h46
      exact kN [1, 2, 3, 23]
   ·refine J.caseB 23 (b := s36) (by kernel_rfl) (fun hb47 => ?_) (fun hb47 => ?_)
    ·have h48 := condT hb47 h40
     refine kT ?_
     refine kSR ?_
     refine kC 1 [1,2,3] ?_
     refine kEN ?_
     refine kX ?_
     obtain rfl := oi h48
     have h50 := joinX_inr h28
     refine PJ.cutXr (fun e => nomatch e) ?_
     obtain rfl := oi h50
     exact kZ hFn hFH hFD
    ·have h49 := condF hb47 h40
     refine kF ?_
     refine kK ?_
     obtain rfl := oi h49
     exact PJ.cutXl [1, 2, 3] (by kernel_rfl) (by kernel_rfl)
  ·subst hs
   have h29 := joinX_inl h28
   obtain ⟨s62, hy64, h66⟩ := bindS h29
   refine K.cutN (by kernel_rfl) (fun (s62 : Bool) => ([(2, .bool s62)], [])) s62 ?_ ?_
   ·refine kR ?_
    refine kC 2 [1,2,3,25] ?_
    obtain ⟨hm, h67⟩ := asrt hy64
    refine RJ.rel (d := (some 26)) (ef := ⟨.ep (((x0.D_.flatMap (encI .u8)).drop ((0 : Int).toNat * 1)).take 1), [], []⟩) (ef' := ⟨.ep ((encI .u8) (nth x0.D_ 0)), [], []⟩) (c := inR 0 x0.D_.length) (tr2 := []) (H2 := [.box (encSt28 x0)]) (by kernel_rfl) hm (fun hc => N.idx (encI_len .u8) hc) (by kernel_rfl) ?_
    refine kC 3 [1,2,3,29] ?_
    refine RJ.caseB 29 (b := (decide (¬ (nth x0.D_ 0) = 0))) (by kernel_rfl) (fun hb68 => ?_) (fun hb68 => ?_)
    ·have h69 := condT hb68 h67
     refine kC 4 [1,2,29,31,33] ?_
     obtain ⟨hm, h71⟩ := asrt h69
     refine RJ.rel (d := (some 34)) (ef := ⟨.ep (((x0.D_.flatMap (encI .u8)).drop (((IntKind.wrap .i64 ((x0.D_.length : Int) - 1)) : Int).toNat * 1)).take 1), [], []⟩) (ef' := ⟨.ep ((encI .u8) (nth x0.D_ ((IntKind.wrap .i64 ((x0.D_.length : Int) - 1))))), [], []⟩) (c := inR ((IntKind.wrap .i64 ((x0.D_.length : Int) - 1))) x0.D_.length) (tr2 := []) (H2 := [.box (encSt28 x0)]) (by kernel_rfl) hm (fun hc => N.idx (encI_len .u8) hc) (by kernel_rfl) ?_
     refine RJ.seg 4 [1, 2, 38] (L2 := [(1, .ptr 0 0), (2, .bool false), (38, .bool ((decide (¬ ((nth x0.D_ ((IntKind.wrap .i64 ((x0.D_.length : Int) - 1))))) = 0))))]) (H2 := [.box (encSt28 x0)]) (by kernel_rfl) ?_
     refine RJ.caseB 38 (b := (decide (¬ ((nth x0.D_ ((IntKind.wrap .i64 ((x0.D_.length : Int) - 1))))) = 0))) (by kernel_rfl) (fun hb72 => ?_) (fun hb72 => ?_)
     ·have h73 := condT hb72 h71
      refine kC 2 [2,38,40] ?_
      obtain ⟨y75, hy76, h77⟩ := bindS h73
      refine RJ.call0 (d := (some 41)) (f := 68) (args := [lsv (encI .u8) 1 x0.D_]) (v := .bool y75) (tr2 := []) (by kernel_rfl) (by kernel_rfl) (.cons (Le.refl _) .nil) (dec_figures_ok hy76) (by kernel_rfl) ?_
      refine kC 2 [2] ?_
      refine kE ?_
      obtain rfl := oi h77
      refine PJ.wk (Wk.sel (L2 := [(2, .bool y75)]) (H2 := []) 0 (by rw [hFH]; rfl) hFD [] (by kernel_rfl) (by kernel_rfl) (by decide) (by kernel_rfl) (by kernel_rfl) (by kernel_rfl) (by kernel_rfl)) ?_
      exact kN [2]
     ·have h74 := condF hb72 h71
      refine kC 5 [2] ?_
      refine kE ?_
      obtain rfl := oi h74
      refine PJ.wk (Wk.sel (L2 := [(2, .bool false)]) (H2 := []) 0 (by rw [hFH]; rfl) hFD [] (by kernel_rfl) (by kernel_rfl) (by decide) (by kernel_rfl) (by kernel_rfl) (by kernel_rfl) (by kernel_rfl)) ?_
      exact kN [2]
    ·have h70 := condF hb68 h67
     refine kC 14 [2] ?_
     refine kE ?_
     obtain rfl := oi h70
     refine PJ.wk (Wk.sel (L2 := [(2, .bool false)]) (H2 := []) 0 (by rw [hFH]; rfl) hFD [] (by kernel_rfl) (by kernel_rfl) (by decide) (by kernel_rfl) (by kernel_rfl) (by kernel_rfl) (by kernel_rfl)) ?_
     exact kN [2]
   ·refine kX ?_
    obtain rfl := oi h66
    exact kZ hFn hFH hFD

structure St98 where
 Dec_ : St28
 deriving Inhabited, DecidableEq
def encSt98 (x : St98) : List SV := [.bool x.Dec_.Neg_, lsv (encI .u8) 1 x.Dec_.D_, .int .i64 x.Dec_.E_]
theorem encSt98_len (x : St98) : (encSt98 x).length = 3 := rfl

def dec_work__mag (x0 : St98) : Option (Int) :=
 (bif (decide ((x0.Dec_.D_.length : Int) = 0)) then (some 0) else (some (IntKind.wrap .i64 (((IntKind.wrap .i64 (x0.Dec_.E_ + (x0.Dec_.D_.length : Int)))) - 1))))
theorem dec_work__mag_ok {x0 : St98} {r : Int} (h : dec_work__mag x0 = some r) : SC Tryz.prog 70 [.agg (encSt98 x0)] [] (.int .i64 r) [] := by
 refine kFn (fn := Tryz.f70) (fun F hFn hFH hFD => ?_)
 unfold dec_work__mag at h
 refine kSR ?_
 refine kC 2 [1,2] ?_
 refine kEN ?_
 refine kS ?_
 refine kSR ?_
 refine kC 5 [1,2,7] ?_
 refine kEN ?_
 refine J.caseB 7 (b := (decide ((x0.Dec_.D_.length : Int) = 0))) (by kernel_rfl) (fun hb1 => ?_) (fun hb1 => ?_)
 ·have h2 := condT hb1 h
  refine kT ?_
  refine kSR ?_
  refine kC 1 [1,2] ?_
  refine kEN ?_
  refine kX ?_
  refine PJ.passRet ?_
  obtain rfl := oi h2
  exact kZ hFn hFH hFD
 ·have h3 := condF hb1 h
  refine kF ?_
  refine kK ?_
  refine PJ.next ?_
  refine kSR ?_
  refine kC 10 [2] ?_
  refine kEN ?_
  refine kX ?_
  obtain rfl := oi h3
  exact kZ hFn hFH hFD

def dec_Mag (x0 : St28) : Option (Int) :=
 (Option.bind (dec_work__mag (⟨x0⟩ : St98)) fun y1 => (some y1))
theorem dec_Mag_ok {x0 : St28} {r : Int} (h : dec_Mag x0 = some r) : SC Tryz.prog 65 [.agg (encSt28 x0)] [] (.int .i64 r) [] := by
 refine kFn (fn := Tryz.f65) (fun F hFn hFH hFD => ?_)
 unfold dec_Mag at h
 refine kSR ?_
 refine kC 2 [1,2] ?_
 refine kEN ?_
 refine kSR ?_
 refine kC 2 [2,4] ?_
 obtain ⟨y1, hy2, h3⟩ := bindS h
 refine RJ.call0 (d := (some 5)) (f := 70) (args := [.agg (encSt28 x0)]) (v := .int .i64 y1) (tr2 := []) (by kernel_rfl) (by kernel_rfl) (.cons (Le.refl _) .nil) (dec_work__mag_ok hy2) (by kernel_rfl) ?_
 refine kC 1 [2] ?_
 refine kEN ?_
 refine kX ?_
 obtain rfl := oi h3
 exact kZ hFn hFH hFD

def slices_Clone (x0 : List Int) : Option (List Int) :=
 (bif (Nat.beq x0.length 0) then agree (some ([] : List Int)) (bif room x0.length then (some x0) else none) else (bif room x0.length then (some x0) else none))
theorem slices_Clone_ok {x0 : List Int} {r : List Int} (h : slices_Clone x0 = some r) : SC Tryz.prog 79 [lsv (encI .u8) 1 x0] [] (lsv (encI .u8) 1 r) [] := by
 refine kFn (fn := Tryz.f79) (fun F hFn hFH hFD => ?_)
 unfold slices_Clone at h
 refine kSR ?_
 refine kC 1 [0,2] ?_
 refine kEN ?_
 refine kS ?_
 refine kSR ?_
 refine kC 1 [0,2,3] ?_
 refine RJ.isNil (d := 4) (n := x0.length) (eq := true) (by kernel_rfl) (fun b hb3 => ?_)
 cases b
 ·have h2 := agreeF h
  refine kEN ?_
  refine kF ?_
  refine kK ?_
  refine PJ.next ?_
  refine kSR ?_
  refine kC 2 [2,5,6] ?_
  obtain ⟨hm, h4⟩ := asrt h2
  refine RJ.rel (d := (some 7)) (ef := ⟨.vc 0, [], [(0, .vec x0.length 1 5 (x0.flatMap (encI .u8)))]⟩) (ef' := ⟨.vc 0, [], [(0, .vec x0.length 1 5 (x0.flatMap (encI .u8)))]⟩) (c := roomB x0.length) (tr2 := []) (H2 := [vecL (encI .u8) 1 5 x0]) (by kernel_rfl) (roomB_of_room hm) (fun hc => rfl) (by kernel_rfl) ?_
  refine RJ.seg 1 [2] (L2 := [(2, .vc 0)]) (H2 := [vecL (encI .u8) 1 5 x0]) (by kernel_rfl) ?_
  refine kEN ?_
  refine kX ?_
  obtain rfl := oi h4
  refine PJ.wk (Wk.freeze 0 (n := x0.length) (k := 1) (e := 5) (cs := x0.flatMap (encI .u8)) (by kernel_rfl)) ?_
  exact kZ hFn hFH hFD
 ·have h1 := agreeT (by rw [hb3 rfl]; rfl) h
  refine kEN ?_
  refine kT ?_
  refine kSR ?_
  refine kC 1 [0,2] ?_
  refine kEN ?_
  refine kX ?_
  refine PJ.passRet ?_
  obtain rfl := oi h1
  refine PJ.res (v1 := .nl) (Le.nl _) ?_
  exact kZ hFn hFH hFD

def dec_Shift (x0 : St28) (x1 : Int) : Option (St28 × Int) :=
 (Option.bind (Option.bind (bif (decide (x1 < (-1099511627776))) then (some true) else (some (decide (x1 > 1099511627776)))) fun (s24 : Bool) => (bif s24 then (some (.inr ((⟨false, ([] : List Int), 0⟩ : St28), 11))) else (some (.inl ())))) (joinX fun (s16 : Unit) => (Option.bind (slices_Clone x0.D_) fun y36 => (bif (decide ((y36.length : Int) = 0)) then (some ((⟨x0.Neg_, y36, x0.E_⟩ : St28), 0)) else (Option.bind (Option.bind (bif (decide ((IntKind.wrap .i64 (x0.E_ + x1)) < (-1000))) then (some true) else (some ((decide ((IntKind.wrap .i64 (x0.E_ + x1)) > 1000))))) fun (s65 : Bool) => (bif s65 then (some (.inr ((⟨false, ([] : List Int), 0⟩ : St28), 11))) else (some (.inl ())))) (joinX fun (s57 : Unit) => (some ((⟨x0.Neg_, y36, (IntKind.wrap .i64 (x0.E_ + x1))⟩ : St28), 0))))))))
theorem dec_Shift_ok {x0 : St28} {x1 : Int} {r : St28 × Int} (h : dec_Shift x0 x1 = some r) : SC Tryz.prog 69 [.agg (encSt28 x0), .int .i64 x1] [] (.tup [.agg (encSt28 r.1), .int .i64 r.2]) [] := by
 refine kFn (fn := Tryz.f69) (fun F hFn hFH hFD => ?_)
 unfold dec_Shift at h
 refine kSR ?_
 refine kC 3 [1,2,4,5] ?_
 refine kEN ?_
 obtain ⟨y17, hy18, h19⟩ := bindS h
 refine K.cutX (by kernel_rfl) (fun (s16 : Unit) => ([(1, .int .i64 x1), (2, .ptr 0 0), (4, .ptr 1 0), (5, .int .i64 0)], [.box (encSt28 x0), .box [.bool false, .nl, .int .i64 0]])) y17 ?_ (fun s16 hs => ?_)
 ·obtain ⟨s24, hy26, h28⟩ := bindS hy18
  refine K.cutN (by kernel_rfl) (fun (s24 : Bool) => ([(1, .int .i64 x1), (2, .ptr 0 0), (4, .ptr 1 0), (5, .int .i64 0), (11, .bool s24)], [.box (encSt28 x0), .box [.bool false, .nl, .int .i64 0]])) s24 ?_ ?_
  ·refine kR ?_
   refine kC 3 [1,2,4,5,8] ?_
   refine RJ.caseB 8 (b := (decide (x1 < (-1099511627776)))) (by kernel_rfl) (fun hb29 => ?_) (fun hb29 => ?_)
   ·have h30 := condT hb29 hy26
    refine kC 3 [1,2,4,5,11] ?_
    refine kE ?_
    obtain rfl := oi h30
    exact kN [1, 2, 4, 5, 11]
   ·have h31 := condF hb29 hy26
    refine kC 3 [1,2,4,5,11] ?_
    refine kE ?_
    obtain rfl := oi h31
    exact kN [1, 2, 4, 5, 11]
  ·refine J.caseB 11 (b := s24) (by kernel_rfl) (fun hb32 => ?_) (fun hb32 => ?_)
   ·have h33 := condT hb32 h28
    refine kT ?_
    refine kSR ?_
    refine kC 3 [1,2,4,5] ?_
    refine kEN ?_
    refine kX ?_
    obtain rfl := oi h33
    have h35 := joinX_inr h19
    refine PJ.cutXr (fun e => nomatch e) ?_
    obtain rfl := oi h35
    refine PJ.res (v1 := .tup [.agg [.bool false, .nl, .int .i64 0], .int .i64 11]) (Le.tup (.cons (Le.agg (.cons (Le.refl _) (.cons (Le.nl _) (.cons (Le.refl _) .nil)))) (.cons (Le.refl _) .nil))) ?_
    exact kZ hFn hFH hFD
   ·have h34 := condF hb32 h28
    refine kF ?_
    refine kK ?_
    obtain rfl := oi h34
    exact PJ.cutXl [1, 2, 4, 5] (by kernel_rfl) (by kernel_rfl)
 ·subst hs
  have h20 := joinX_inl h19
  refine kSR ?_
  refine kC 2 [1,2,4,5,14] ?_
  obtain ⟨y36, hy37, h38⟩ := bindS h20
  refine RJ.call0 (d := (some 15)) (f := 79) (args := [lsv (encI .u8) 1 x0.D_]) (v := lsv (encI .u8) 1 y36) (tr2 := []) (by kernel_rfl) (by kernel_rfl) (.cons (Le.refl _) .nil) (slices_Clone_ok hy37) (by kernel_rfl) ?_
  refine kC 2 [1,2,4,5] ?_
  refine kEN ?_
  refine kS ?_
  refine kSR ?_
  refine kC 4 [1,2,4,5,20] ?_
  refine kEN ?_
  refine J.caseB 20 (b := (decide ((y36.length : Int) = 0))) (by kernel_rfl) (fun hb39 => ?_) (fun hb39 => ?_)
  ·have h40 := condT hb39 h38
   refine kT ?_
   refine kSR ?_
   refine RJ.seg 3 [1, 2, 4, 5] (L2 := [(1, .int .i64 x1), (2, .ptr 0 0), (4, .ptr 1 0), (5, .int .i64 0)]) (H2 := [.box [.bool x0.Neg_, lsv (encI .u8) 1 y36, .int .i64 x0.E_], .box [.bool x0.Neg_, lsv (encI .u8) 1 y36, .int .i64 x0.E_]]) (by kernel_rfl) ?_
   refine kEN ?_
   refine kX ?_
   refine PJ.passRet ?_
   obtain rfl := oi h40
   exact kZ hFn hFH hFD
  ·have h41 := condF hb39 h38
   refine kF ?_
   refine kK ?_
   refine PJ.next ?_
   refine kSR ?_
   refine RJ.seg 6 [2, 4, 5] (L2 := [(2, .ptr 0 0), (4, .ptr 1 0), (5, .int .i64 0)]) (H2 := [.box [.bool x0.Neg_, lsv (encI .u8) 1 y36, .int .i64 (IntKind.wrap .i64 (x0.E_ + x1))], .box [.bool false, .nl, .int .i64 0]]) (by kernel_rfl) ?_
   refine kEN ?_
   obtain ⟨y58, hy59, h60⟩ := bindS h41
   refine K.cutX (by kernel_rfl) (fun (s57 : Unit) => ([(2, .ptr 0 0), (4, .ptr 1 0), (5, .int .i64 0)], [.box [.bool x0.Neg_, lsv (encI .u8) 1 y36, .int .i64 (IntKind.wrap .i64 (x0.E_ + x1))], .box [.bool false, .nl, .int .i64 0]])) y58 ?_ (fun s57 hs => ?_)
   ·obtain ⟨s65, hy67, h69⟩ := bindS hy59
    refine K.cutN (by kernel_rfl) (fun (s65 : Bool) => ([(2, .ptr 0 0), (4, .ptr 1 0), (5, .int .i64 0), (34, .bool s65)], [.box [.bool x0.Neg_, lsv (encI .u8) 1 y36, .int .i64 (IntKind.wrap .i64 (x0.E_ + x1))], .box [.bool false, .nl, .int .i64 0]])) s65 ?_ ?_
    ·refine kR ?_
     refine kC 4 [2,4,5,30] ?_
     refine RJ.caseB 30 (b := (decide ((IntKind.wrap .i64 (x0.E_ + x1)) < (-1000)))) (by kernel_rfl) (fun hb70 => ?_) (fun hb70 => ?_)
     ·have h71 := condT hb70 hy67
      refine kC 4 [2,4,5,34] ?_
      refine kE ?_
      obtain rfl := oi h71
      exact kN [2, 4, 5, 34]
     ·have h72 := condF hb70 hy67
      refine kC 4 [2,4,5,34] ?_
      refine kE ?_
      obtain rfl := oi h72
      exact kN [2, 4, 5, 34]
    ·refine J.caseB 34 (b := s65) (by kernel_rfl) (fun hb73 => ?_) (fun hb73 => ?_)
     ·have h74 := condT hb73 h69
      refine kT ?_
      refine kSR ?_
      refine kC 3 [2,4,5] ?_
      refine kEN ?_
      refine kX ?_
      obtain rfl := oi h74
      have h76 := joinX_inr h60
      refine PJ.cutXr (fun e => nomatch e) ?_
      obtain rfl := oi h76
      refine PJ.res (v1 := .tup [.agg [.bool false, .nl, .int .i64 0], .int .i64 11]) (Le.tup (.cons (Le.agg (.cons (Le.refl _) (.cons (Le.nl _) (.cons (Le.refl _) .nil)))) (.cons (Le.refl _) .nil))) ?_
      exact kZ hFn hFH hFD
     ·have h75 := condF hb73 h69
      refine kF ?_
      refine kK ?_
      obtain rfl := oi h75
      exact PJ.cutXl [2, 4, 5] (by kernel_rfl) (by kernel_rfl)
   ·subst hs
    have h61 := joinX_inl h60
    refine kSR ?_
    refine kC 3 [4,5] ?_
    refine kEN ?_
    refine kX ?_
    obtain rfl := oi h61
    exact kZ hFn hFH hFD

def shape_bare (x0 : St25) (x1 : St28) : Option (St28 × Int) :=
 (bif (decide (x0.Exp_ < 1)) then (some (x1, 0)) else (Option.bind (dec_Mag x1) fun y4 => (Option.bind (dec_Shift x1 (IntKind.wrap .i64 (0 - y4))) fun y7 => (some (y7.1, y4)))))
theorem shape_bare_ok {x0 : St25} {x1 : St28} {r : St28 × Int} (h : shape_bare x0 x1 = some r) : SC Tryz.prog 33 [.agg (encSt25 x0), .agg (encSt28 x1)] [] (.tup [.agg (encSt28 r.1), .int .i64 r.2]) [] := by
 refine kFn (fn := Tryz.f33) (fun F hFn hFH hFD => ?_)
 unfold shape_bare at h
 refine kSR ?_
 refine kC 4 [2,3,4,5] ?_
 refine kEN ?_
 refine kS ?_
 refine kSR ?_
 refine kC 3 [3,4,5,9] ?_
 refine kEN ?_
 refine J.caseB 9 (b := (decide (x0.Exp_ < 1))) (by kernel_rfl) (fun hb1 => ?_) (fun hb1 => ?_)
 ·have h2 := condT hb1 h
  refine kT ?_
  refine kSR ?_
  refine kC 3 [3,4,5] ?_
  refine kEN ?_
  refine kX ?_
  refine PJ.passRet ?_
  obtain rfl := oi h2
  exact kZ hFn hFH hFD
 ·have h3 := condF hb1 h
  refine kF ?_
  refine kK ?_
  refine PJ.next ?_
  refine kSR ?_
  refine kC 1 [3,4,5,11] ?_
  obtain ⟨y4, hy5, h6⟩ := bindS h3
  refine RJ.call0 (d := (some 12)) (f := 65) (args := [.agg (encSt28 x1)]) (v := .int .i64 y4) (tr2 := []) (by kernel_rfl) (by kernel_rfl) (.cons (Le.refl _) .nil) (dec_Mag_ok hy5) (by kernel_rfl) ?_
  refine RJ.seg 1 [3, 4, 5, 6] (L2 := [(3, .ptr 1 0), (4, .ptr 2 0), (5, .int .i64 0), (6, .int .i64 y4)]) (H2 := [.box (encSt25 x0), .box (encSt28 x1), .box [.bool false, .nl, .int .i64 0]]) (by kernel_rfl) ?_
  refine kEN ?_
  refine kSR ?_
  refine kC 3 [3,4,5,6,14,16] ?_
  obtain ⟨y7, hy8, h9⟩ := bindS h6
  refine RJ.call0 (d := (some 17)) (f := 69) (args := [.agg (encSt28 x1), .int .i64 (IntKind.wrap .i64 (0 - y4))]) (v := .tup [.agg (encSt28 y7.1), .int .i64 y7.2]) (tr2 := []) (by kernel_rfl) (by kernel_rfl) (.cons (Le.refl _) (.cons (Le.refl _) .nil)) (dec_Shift_ok hy8) (by kernel_rfl) ?_
  refine kC 4 [3,4,5,6] ?_
  refine kEN ?_
  refine kSR ?_
  refine kC 4 [4,5] ?_
  refine kEN ?_
  refine kX ?_
  obtain rfl := oi h9
  exact kZ hFn hFH hFD

def shape_count (x0 : Int) : Option (Int) :=
 (some (maxI 0 (minI x0 1000)))
theorem shape_count_ok {x0 : Int} {r : Int} (h : shape_count x0 = some r) : SC Tryz.prog 28 [.int .i64 x0] [] (.int .i64 r) [] := by
 refine kFn (fn := Tryz.f28) (fun F hFn hFH hFD => ?_)
 unfold shape_count at h
 refine kSR ?_
 refine kC 1 [0,2] ?_
 refine kEN ?_
 refine kSR ?_
 refine kC 4 [2] ?_
 refine kEN ?_
 refine kX ?_
 obtain rfl := oi h
 exact kZ hFn hFH hFD

def shape_ahead (x0 : St25) (x1 : St28) : Option (Int) :=
 (Option.bind (shape_count x0.MinInt_) fun y1 => (Option.bind (Option.bind (bif (decide (x0.Exp_ < 1)) then (some (decide (x0.MaxSig_ > 0))) else (some false)) fun (s26 : Bool) => (bif s26 then (some 1) else (some y1))) fun (s18 : Int) => (bif (decide ((x1.D_.length : Int) = 0)) then (some s18) else (Option.bind (dec_Mag x1) fun y40 => (some (maxI s18 (IntKind.wrap .i64 (y40 + 1))))))))
theorem shape_ahead_ok {x0 : St25} {x1 : St28} {r : Int} (h : shape_ahead x0 x1 = some r) : SC Tryz.prog 36 [.agg (encSt25 x0), .agg (encSt28 x1)] [] (.int .i64 r) [] := by
 refine kFn (fn := Tryz.f36) (fun F hFn hFH hFD => ?_)
 unfold shape_ahead at h
 refine kSR ?_
 refine kC 3 [2,3,4] ?_
 refine kEN ?_
 refine kSR ?_
 refine kC 2 [2,3,4,7] ?_
 obtain ⟨y1, hy2, h3⟩ := bindS h
 refine RJ.call0 (d := (some 8)) (f := 28) (args := [.int .i64 x0.MinInt_]) (v := .int .i64 y1) (tr2 := []) (by kernel_rfl) (by kernel_rfl) (.cons (Le.refl _) .nil) (shape_count_ok hy2) (by kernel_rfl) ?_
 refine kC 1 [2,3,4,5] ?_
 refine kEN ?_
 obtain ⟨s18, hy20, h22⟩ := bindS h3
 refine K.cutN (by kernel_rfl) (fun (s18 : Int) => ([(3, .ptr 0 0), (4, .int .i64 0), (5, .int .i64 s18)], [.box (encSt28 x1)])) s18 ?_ ?_
 ·obtain ⟨s26, hy28, h30⟩ := bindS hy20
  refine K.cutN (by kernel_rfl) (fun (s26 : Bool) => ([(3, .ptr 0 0), (4, .int .i64 0), (5, .int .i64 y1), (16, .bool s26)], [.box (encSt28 x1)])) s26 ?_ ?_
  ·refine kR ?_
   refine RJ.seg 4 [2, 3, 4, 5, 12] (L2 := [(2, .ptr 0 0), (3, .ptr 1 0), (4, .int .i64 0), (5, .int .i64 y1), (12, .bool (decide (x0.Exp_ < 1)))]) (H2 := [.box (encSt25 x0), .box (encSt28 x1)]) (by kernel_rfl) ?_
   refine RJ.caseB 12 (b := (decide (x0.Exp_ < 1))) (by kernel_rfl) (fun hb31 => ?_) (fun hb31 => ?_)
   ·have h32 := condT hb31 hy28
    refine kC 4 [3,4,5,16] ?_
    refine kE ?_
    obtain rfl := oi h32
    refine PJ.wk (Wk.sel (L2 := [(3, .ptr 0 0), (4, .int .i64 0), (5, .int .i64 y1), (16, .bool (decide (x0.MaxSig_ > 0)))]) (H2 := [.box (encSt28 x1)]) 0 (by rw [hFH]; rfl) hFD [1] (by kernel_rfl) (by kernel_rfl) (by decide) (by kernel_rfl) (by kernel_rfl) (by kernel_rfl) (by kernel_rfl)) ?_
    exact kN [3, 4, 5, 16]
   ·have h33 := condF hb31 hy28
    refine kC 4 [3,4,5,16] ?_
    refine kE ?_
    obtain rfl := oi h33
    refine PJ.wk (Wk.sel (L2 := [(3, .ptr 0 0), (4, .int .i64 0), (5, .int .i64 y1), (16, .bool false)]) (H2 := [.box (encSt28 x1)]) 0 (by rw [hFH]; rfl) hFD [1] (by kernel_rfl) (by kernel_rfl) (by decide) (by kernel_rfl) (by kernel_rfl) (by kernel_rfl) (by kernel_rfl)) ?_
    exact kN [3, 4, 5, 16]
  ·refine J.caseB 16 (b := s26) (by kernel_rfl) (fun hb34 => ?_) (fun hb34 => ?_)
   ·have h35 := condT hb34 h30
    refine kT ?_
    refine kR ?_
    refine kC 1 [3,4,5] ?_
    refine kE ?_
    obtain rfl := oi h35
    exact kN [3, 4, 5]
   ·have h36 := condF hb34 h30
    refine kF ?_
    refine kK ?_
    obtain rfl := oi h36
    exact kN [3, 4, 5]
 ·refine kS ?_
  refine kSR ?_
  refine kC 4 [3,4,5,20] ?_
  refine kEN ?_
  refine J.caseB 20 (b := (decide ((x1.D_.length : Int) = 0))) (by kernel_rfl) (fun hb37 => ?_) (fun hb37 => ?_)
  ·have h38 := condT hb37 h22
   refine kT ?_
   refine kSR ?_
   refine kC 2 [3,4,5] ?_
   refine kEN ?_
   refine kX ?_
   refine PJ.passRet ?_
   obtain rfl := oi h38
   exact kZ hFn hFH hFD
  ·have h39 := condF hb37 h22
   refine kF ?_
   refine kK ?_
   refine PJ.next ?_
   refine kSR ?_
   refine kC 2 [4,22,23] ?_
   obtain ⟨y40, hy41, h42⟩ := bindS h39
   refine RJ.call0 (d := (some 24)) (f := 65) (args := [.agg (encSt28 x1)]) (v := .int .i64 y40) (tr2 := []) (by kernel_rfl) (by kernel_rfl) (.cons (Le.refl _) .nil) (dec_Mag_ok hy41) (by kernel_rfl) ?_
   refine kC 3 [4] ?_
   refine kEN ?_
   refine kX ?_
   obtain rfl := oi h42
   exact kZ hFn hFH hFD

def dec_work__figure (x0 : St98) (x1 : Int) : Option (Int) :=
 (Option.bind (Option.bind (bif (decide (x1 < 0)) then (some true) else (some ((decide (x1 ≥ (x0.Dec_.D_.length : Int)))))) fun (s24 : Bool) => (bif s24 then (some (.inr 0)) else (some (.inl ())))) (joinX fun (s16 : Unit) => (bif inR x1 x0.Dec_.D_.length then (some (nth x0.Dec_.D_ x1)) else none)))
theorem dec_work__figure_ok {x0 : St98} {x1 : Int} {r : Int} (h : dec_work__figure x0 x1 = some r) : SC Tryz.prog 71 [.agg (encSt98 x0), .int .i64 x1] [] (.int .u8 r) [] := by
 refine kFn (fn := Tryz.f71) (fun F hFn hFH hFD => ?_)
 unfold dec_work__figure at h
 refine kSR ?_
 refine kC 2 [1,2,4] ?_
 refine kEN ?_
 obtain ⟨y17, hy18, h19⟩ := bindS h
 refine K.cutX (by kernel_rfl) (fun (s16 : Unit) => ([(1, .int .i64 x1), (2, .ptr 0 0), (4, .int .u8 0)], [.box (encSt98 x0)])) y17 ?_ (fun s16 hs => ?_)
 ·obtain ⟨s24, hy26, h28⟩ := bindS hy18
  refine K.cutN (by kernel_rfl) (fun (s24 : Bool) => ([(1, .int .i64 x1), (2, .ptr 0 0), (4, .int .u8 0), (14, .bool s24)], [.box (encSt98 x0)])) s24 ?_ ?_
  ·refine kR ?_
   refine kC 3 [1,2,4,7] ?_
   refine RJ.caseB 7 (b := (decide (x1 < 0))) (by kernel_rfl) (fun hb29 => ?_) (fun hb29 => ?_)
   ·have h30 := condT hb29 hy26
    refine kC 7 [1,2,4,14] ?_
    refine kE ?_
    obtain rfl := oi h30
    exact kN [1, 2, 4, 14]
   ·have h31 := condF hb29 hy26
    refine kC 7 [1,2,4,14] ?_
    refine kE ?_
    obtain rfl := oi h31
    exact kN [1, 2, 4, 14]
  ·refine J.caseB 14 (b := s24) (by kernel_rfl) (fun hb32 => ?_) (fun hb32 => ?_)
   ·have h33 := condT hb32 h28
    refine kT ?_
    refine kSR ?_
    refine kC 1 [1,2,4] ?_
    refine kEN ?_
    refine kX ?_
    obtain rfl := oi h33
    have h35 := joinX_inr h19
    refine PJ.cutXr (fun e => nomatch e) ?_
    obtain rfl := oi h35
    exact kZ hFn hFH hFD
   ·have h34 := condF hb32 h28
    refine kF ?_
    refine kK ?_
    obtain rfl := oi h34
    exact PJ.cutXl [1, 2, 4] (by kernel_rfl) (by kernel_rfl)
 ·subst hs
  have h20 := joinX_inl h19
  refine kSR ?_
  refine kC 4 [4,17,18] ?_
  obtain ⟨hm, h36⟩ := asrt h20
  refine RJ.rel (d := (some 19)) (ef := ⟨.ep (((x0.Dec_.D_.flatMap (encI .u8)).drop ((x1 : Int).toNat * 1)).take 1), [], []⟩) (ef' := ⟨.ep ((encI .u8) (nth x0.Dec_.D_ x1)), [], []⟩) (c := inR x1 x0.Dec_.D_.length) (tr2 := []) (H2 := [.box (encSt98 x0)]) (by kernel_rfl) hm (fun hc => N.idx (encI_len .u8) hc) (by kernel_rfl) ?_
  refine kC 2 [4] ?_
  refine kEN ?_
  refine kX ?_
  obtain rfl := oi h36
  exact kZ hFn hFH hFD

def dec_At (x0 : St28) (x1 : Int) : Option (Int) :=
 (Option.bind (Option.bind (bif (decide (x1 < x0.E_)) then (some true) else (Option.bind (dec_work__mag (⟨x0⟩ : St98)) fun y41 => (some (decide (x1 > y41))))) fun (s33 : Bool) => (bif s33 then (some (.inr 0)) else (some (.inl ())))) (joinX fun (s22 : Unit) => (Option.bind (dec_work__mag (⟨x0⟩ : St98)) fun y48 => (Option.bind (dec_work__figure (⟨x0⟩ : St98) (IntKind.wrap .i64 (y48 - x1))) fun y51 => (some y51)))))
theorem dec_At_ok {x0 : St28} {x1 : Int} {r : Int} (h : dec_At x0 x1 = some r) : SC Tryz.prog 35 [.agg (encSt28 x0), .int .i64 x1] [] (.int .u8 r) [] := by
 refine kFn (fn := Tryz.f35) (fun F hFn hFH hFD => ?_)
 unfold dec_At at h
 refine kSR ?_
 refine kC 2 [1,2,4] ?_
 refine kEN ?_
 refine kSR ?_
 refine kC 4 [1,4,5] ?_
 refine kEN ?_
 obtain ⟨y23, hy24, h25⟩ := bindS h
 refine K.cutX (by kernel_rfl) (fun (s22 : Unit) => ([(1, .int .i64 x1), (4, .int .u8 0), (5, .ptr 0 0)], [.box (encSt28 x0)])) y23 ?_ (fun s22 hs => ?_)
 ·obtain ⟨s33, hy35, h37⟩ := bindS hy24
  refine K.cutN (by kernel_rfl) (fun (s33 : Bool) => ([(1, .int .i64 x1), (4, .int .u8 0), (5, .ptr 0 0), (18, .bool s33)], [.box (encSt28 x0)])) s33 ?_ ?_
  ·refine kR ?_
   refine kC 6 [1,4,5,13] ?_
   refine RJ.caseB 13 (b := (decide (x1 < x0.E_))) (by kernel_rfl) (fun hb38 => ?_) (fun hb38 => ?_)
   ·have h39 := condT hb38 hy35
    refine RJ.seg 5 [1, 4, 5, 18] (L2 := [(1, .int .i64 x1), (4, .int .u8 0), (5, .ptr 1 0), (18, .bool true)]) (H2 := [.box (encSt28 x0), .box (encSt28 x0)]) (by kernel_rfl) ?_
    refine kE ?_
    obtain rfl := oi h39
    refine PJ.wk (Wk.sel (L2 := [(1, .int .i64 x1), (4, .int .u8 0), (5, .ptr 0 0), (18, .bool true)]) (H2 := [.box (encSt28 x0)]) 0 (by rw [hFH]; rfl) hFD [1] (by kernel_rfl) (by kernel_rfl) (by decide) (by kernel_rfl) (by kernel_rfl) (by kernel_rfl) (by kernel_rfl)) ?_
    exact kN [1, 4, 5, 18]
   ·have h40 := condF hb38 hy35
    refine RJ.seg 2 [1, 4, 5, 13, 14, 15] (L2 := [(1, .int .i64 x1), (4, .int .u8 0), (5, .ptr 1 0), (13, .bool false), (14, .int .i64 x1), (15, .agg (encSt28 x0))]) (H2 := [.box (encSt28 x0), .box (encSt28 x0)]) (by kernel_rfl) ?_
    obtain ⟨y41, hy42, h43⟩ := bindS h40
    refine RJ.call0 (d := (some 16)) (f := 70) (args := [.agg (encSt28 x0)]) (v := .int .i64 y41) (tr2 := []) (by kernel_rfl) (by kernel_rfl) (.cons (Le.refl _) .nil) (dec_work__mag_ok hy42) (by kernel_rfl) ?_
    refine kC 2 [1,4,5,18] ?_
    refine kE ?_
    obtain rfl := oi h43
    refine PJ.wk (Wk.sel (L2 := [(1, .int .i64 x1), (4, .int .u8 0), (5, .ptr 0 0), (18, .bool (decide (x1 > y41)))]) (H2 := [.box (encSt28 x0)]) 0 (by rw [hFH]; rfl) hFD [1] (by kernel_rfl) (by kernel_rfl) (by decide) (by kernel_rfl) (by kernel_rfl) (by kernel_rfl) (by kernel_rfl)) ?_
    exact kN [1, 4, 5, 18]
  ·refine J.caseB 18 (b := s33) (by kernel_rfl) (fun hb44 => ?_) (fun hb44 => ?_)
   ·have h45 := condT hb44 h37
    refine kT ?_
    refine kSR ?_
    refine kC 1 [1,4,5] ?_
    refine kEN ?_
    refine kX ?_
    obtain rfl := oi h45
    have h47 := joinX_inr h25
    refine PJ.cutXr (fun e => nomatch e) ?_
    obtain rfl := oi h47
    exact kZ hFn hFH hFD
   ·have h46 := condF hb44 h37
    refine kF ?_
    refine kK ?_
    obtain rfl := oi h46
    exact PJ.cutXl [1, 4, 5] (by kernel_rfl) (by kernel_rfl)
 ·subst hs
  have h26 := joinX_inl h25
  refine kS ?_
  refine J.keep [1, 4, 5] (L2 := [(1, .int .i64 x1), (4, .int .u8 0), (5, .ptr 0 0)]) (by kernel_rfl) ?_
  refine K.draw (by kernel_rfl) (by kernel_rfl) (by kernel_rfl) (H2 := [.box (encSt28 x0), .res, .res]) (by kernel_rfl) (n := 1) (by kernel_rfl) ?_
  refine kD 2 ?_
  obtain ⟨y48, hy49, h50⟩ := bindS h26
  refine RJ.call0 (d := (some 21)) (f := 70) (args := [.agg (encSt28 x0)]) (v := .int .i64 y48) (tr2 := [([0, 1], []), ([0, 1], []), ([], [2, 3])]) (by kernel_rfl) (by kernel_rfl) (.cons (Le.refl _) .nil) (dec_work__mag_ok hy49) (by kernel_rfl) ?_
  refine kD 2 ?_
  obtain ⟨y51, hy52, h53⟩ := bindS h50
  refine RJ.call0 (d := (some 24)) (f := 71) (args := [.agg (encSt28 x0), .int .i64 (IntKind.wrap .i64 (y48 - x1))]) (v := .int .u8 y51) (tr2 := [([0, 1], []), ([0, 1], []), ([], [2, 3]), ([], []), ([], []), ([], [4, 5])]) (by kernel_rfl) (by kernel_rfl) (.cons (Le.refl _) (.cons (Le.refl _) .nil)) (dec_work__figure_ok hy52) (by kernel_rfl) ?_
  refine kD 1 ?_
  refine kEN ?_
  refine kX ?_
  obtain rfl := oi h53
  exact kZ hFn hFH hFD

def shape_Figures_1_s0 (x0 : Int) (x1 : Int) (x2 : Bool) (x3 : List Int) (x4 : Int) : Option ((List Int)) :=
 (Option.bind (loopN (fun (s36 : Int × (List Int)) => (bif (decide (s36.1 < x1)) then (Option.bind (dec_At (⟨x2, x3, x4⟩ : St28) (IntKind.wrap .i64 (x0 - s36.1))) fun y60 => (bif room (s36.2.length + ([y60] : List Int).length) then (some (.inl ((IntKind.wrap .i64 (s36.1 + 1)), (s36.2 ++ ([y60] : List Int))))) else none)) else (some (.inr s36.2)))) big (0, ([] : List Int))) fun (s31 : (List Int)) => (some s31))
theorem shape_Figures_1_s0_ok {x0 : Int} {x1 : Int} {x2 : Bool} {x3 : List Int} {x4 : Int} {r : (List Int)} (h : shape_Figures_1_s0 x0 x1 x2 x3 x4 = some r) : SC Tryz.prog 34 [.int .i64 x0, .int .i64 x1, .ptr 0 0] [.box [.bool x2, lsv (encI .u8) 1 x3, .int .i64 x4]] (lsv (encI .u8) 1 r) [.box [.bool x2, lsv (encI .u8) 1 x3, .int .i64 x4]] := by
 refine kFn (fn := Tryz.f34) (fun F hFn hFH hFD => ?_)
 unfold shape_Figures_1_s0 at h
 refine kSR ?_
 refine kC 1 [0,1,2,5] ?_
 refine kEN ?_
 refine kSR ?_
 refine kC 1 [0,1,2,5,6] ?_
 refine kEN ?_
 obtain ⟨s31, hy33, h35⟩ := bindS h
 refine K.cutN (by kernel_rfl) (fun (s31 : (List Int)) => ([(5, .nl), (6, .vc 1)], [.box [.bool x2, lsv (encI .u8) 1 x3, .int .i64 x4], vecL (encI .u8) 1 5 s31])) s31 ?_ ?_
 ·refine kSR ?_
  refine kC 2 [0,2,5,6,8,9] ?_
  refine kEN ?_
  refine K.block 0 (by kernel_rfl) ?_
  refine J.wk (Wk.viv 6 1 5 (by kernel_rfl)) ?_
  refine K.loop (by kernel_rfl) (fun (s36 : Int × (List Int)) => ([(0, .int .i64 x0), (2, .ptr 0 0), (5, .nl), (6, .vc 1), (8, .int .i64 x1), (9, .int .i64 s36.1)], [.box [.bool x2, lsv (encI .u8) 1 x3, .int .i64 x4], vecL (encI .u8) 1 5 s36.2])) hy33 [0, 2, 5, 6, 8, 9] (by kernel_rfl) (by kernel_rfl) (fun s36 x56 hs55 => ?_)
  refine kSR ?_
  refine kC 1 [0,2,5,6,8,9,10] ?_
  refine kEN ?_
  refine kS ?_
  refine J.caseB 10 (b := (decide (s36.1 < x1))) (by kernel_rfl) (fun hb57 => ?_) (fun hb57 => ?_)
  ·have h58 := condT hb57 hs55
   refine kT ?_
   refine kK ?_
   refine PJ.next ?_
   refine kS ?_
   refine K.block 1 (by kernel_rfl) ?_
   refine kSR ?_
   refine kC 2 [0,2,5,6,7,8,9] ?_
   refine kEN ?_
   refine kR ?_
   refine kC 5 [0,2,5,6,8,9,12,13,16] ?_
   obtain ⟨y60, hy61, h62⟩ := bindS h58
   refine RJ.call0 (d := (some 17)) (f := 35) (args := [.agg [.bool x2, lsv (encI .u8) 1 x3, .int .i64 x4], .int .i64 (IntKind.wrap .i64 (x0 - s36.1))]) (v := .int .u8 y60) (tr2 := []) (by kernel_rfl) (by kernel_rfl) (.cons (Le.refl _) (.cons (Le.refl _) .nil)) (dec_At_ok hy61) (by kernel_rfl) ?_
   refine RJ.seg 1 [0, 2, 5, 6, 8, 9, 12, 18] (L2 := [(0, .int .i64 x0), (2, .ptr 0 0), (5, .nl), (6, .vc 1), (8, .int .i64 x1), (9, .int .i64 s36.1), (12, .vc 1), (18, .vc 2)]) (H2 := [.box [.bool x2, lsv (encI .u8) 1 x3, .int .i64 x4], vecL (encI .u8) 1 5 s36.2, vecL (encI .u8) 1 5 ([y60] : List Int)]) (by kernel_rfl) ?_
   obtain ⟨hm, h63⟩ := asrt h62
   refine RJ.rel (d := (some 19)) (ef := ⟨.vc 3, [1, 2], [(1, .gone), (3, .vec (s36.2.length + ([y60] : List Int).length) 1 5 (s36.2.flatMap (encI .u8) ++ ([y60] : List Int).flatMap (encI .u8)))]⟩) (ef' := ⟨.vc 3, [1, 2], [(1, .gone), (3, vecL (encI .u8) 1 5 (s36.2 ++ ([y60] : List Int)))]⟩) (c := roomB (s36.2.length + ([y60] : List Int).length)) (tr2 := []) (H2 := [.box [.bool x2, lsv (encI .u8) 1 x3, .int .i64 x4], .gone, vecL (encI .u8) 1 5 ([y60] : List Int), vecL (encI .u8) 1 5 (s36.2 ++ ([y60] : List Int))]) (by kernel_rfl) (roomB_of_room hm) (fun hc => N.app) (by kernel_rfl) ?_
   refine kC 1 [0,2,5,6,8,9] ?_
   refine kE ?_
   refine PJ.blockNormal ?_
   refine PJ.next ?_
   refine kR ?_
   refine kC 2 [0,2,5,6,8,9] ?_
   refine kE ?_
   obtain rfl := oi h63
   refine PJ.wk (Wk.sel (L2 := [(0, .int .i64 x0), (2, .ptr 0 0), (5, .nl), (6, .vc 1), (8, .int .i64 x1), (9, .int .i64 (IntKind.wrap .i64 (s36.1 + 1)))]) (H2 := [.box [.bool x2, lsv (encI .u8) 1 x3, .int .i64 x4], vecL (encI .u8) 1 5 (s36.2 ++ ([y60] : List Int))]) 1 (by rw [hFH]; rfl) hFD [0, 3] (by kernel_rfl) (by kernel_rfl) (by decide) (by kernel_rfl) (by kernel_rfl) (by kernel_rfl) (by kernel_rfl)) ?_
   exact PJ.loopNext [0, 2, 5, 6, 8, 9] (by kernel_rfl) (by kernel_rfl)
  ·have h59 := condF hb57 hs55
   refine kF ?_
   refine K.exit 0 (by kernel_rfl) ?_
   refine PJ.passExit ?_
   obtain rfl := oi h59
   refine PJ.loopOut (fun e => nomatch e) (fun he65 => ?_)
   have h64 := congrArg some he65
   refine PJ.blockOut ?_
   obtain rfl := oi h64
   exact kN [5, 6]
 ·refine kSR ?_
  refine kC 2 [5] ?_
  refine kEN ?_
  refine kX ?_
  obtain rfl := oi h35
  refine PJ.wk (Wk.freeze 1 (n := s31.length) (k := 1) (e := 5) (cs := s31.flatMap (encI .u8)) (by kernel_rfl)) ?_
  exact K.retV (H0 := [.box [.bool x2, lsv (encI .u8) 1 x3, .int .i64 x4]]) [0] (.inr rfl) hFn hFH hFD (by kernel_rfl) (v1 := lsv (encI .u8) 1 s31) (by kernel_rfl) (by kernel_rfl) (by kernel_rfl) (by decide) (by kernel_rfl) (by kernel_rfl) (by kernel_rfl) (by kernel_rfl) (by kernel_rfl)

def shape_behind (x0 : St25) (x1 : Int) (x2 : St28) : Option (Int) :=
 (Option.bind (shape_count x0.MinFrac_) fun y1 => (Option.bind (bif (decide (x0.Exp_ > 0)) then (some y1) else (bif (decide (x0.MaxSig_ > 0)) then (Option.bind (shape_count x0.MinSig_) fun y33 => (Option.bind (dec_Mag x2) fun y36 => (some ((IntKind.wrap .i64 ((IntKind.wrap .i64 (y33 - 1)) - y36)))))) else (bif (decide (x1 ≥ 0)) then (Option.bind (shape_count x1) fun y42 => (some y42)) else (some y1)))) fun (s22 : Int) => (some (maxI (maxI 0 s22) (IntKind.wrap .i64 (0 - x2.E_))))))
theorem shape_behind_ok {x0 : St25} {x1 : Int} {x2 : St28} {r : Int} (h : shape_behind x0 x1 x2 = some r) : SC Tryz.prog 37 [.agg (encSt25 x0), .int .i64 x1, .agg (encSt28 x2)] [] (.int .i64 r) [] := by
 refine kFn (fn := Tryz.f37) (fun F hFn hFH hFD => ?_)
 unfold shape_behind at h
 refine kSR ?_
 refine kC 3 [1,3,5,6] ?_
 refine kEN ?_
 refine kSR ?_
 refine kC 2 [1,3,5,6,9] ?_
 obtain ⟨y1, hy2, h3⟩ := bindS h
 refine RJ.call0 (d := (some 10)) (f := 28) (args := [.int .i64 x0.MinFrac_]) (v := .int .i64 y1) (tr2 := []) (by kernel_rfl) (by kernel_rfl) (.cons (Le.refl _) .nil) (shape_count_ok hy2) (by kernel_rfl) ?_
 refine kC 1 [1,3,5,6,7] ?_
 refine kEN ?_
 obtain ⟨s22, hy24, h26⟩ := bindS h3
 refine K.cutN (by kernel_rfl) (fun (s22 : Int) => ([(5, .ptr 0 0), (6, .int .i64 0), (7, .int .i64 s22)], [.box (encSt28 x2)])) s22 ?_ ?_
 ·refine K.block 0 (by kernel_rfl) ?_
  refine kSR ?_
  refine RJ.seg 4 [1, 3, 5, 6, 7, 11] (L2 := [(1, .int .i64 x1), (3, .ptr 0 0), (5, .ptr 1 0), (6, .int .i64 0), (7, .int .i64 y1), (11, .bool (decide (x0.Exp_ > 0)))]) (H2 := [.box (encSt25 x0), .box (encSt28 x2)]) (by kernel_rfl) ?_
  refine kEN ?_
  refine J.caseB 11 (b := (decide (x0.Exp_ > 0))) (by kernel_rfl) (fun hb27 => ?_) (fun hb27 => ?_)
  ·have h28 := condT hb27 hy24
   refine kT ?_
   refine kK ?_
   refine PJ.blockNormal ?_
   obtain rfl := oi h28
   refine PJ.wk (Wk.sel (L2 := [(5, .ptr 0 0), (6, .int .i64 0), (7, .int .i64 y1)]) (H2 := [.box (encSt28 x2)]) 0 (by rw [hFH]; rfl) hFD [1] (by kernel_rfl) (by kernel_rfl) (by decide) (by kernel_rfl) (by kernel_rfl) (by kernel_rfl) (by kernel_rfl)) ?_
   exact kN [5, 6, 7]
  ·have h29 := condF hb27 hy24
   refine kF ?_
   refine kSR ?_
   refine kC 4 [1,3,5,6,7,15] ?_
   refine kEN ?_
   refine J.caseB 15 (b := (decide (x0.MaxSig_ > 0))) (by kernel_rfl) (fun hb30 => ?_) (fun hb30 => ?_)
   ·have h31 := condT hb30 h29
    refine kT ?_
    refine J.keep [3, 5, 6, 7] (L2 := [(3, .ptr 0 0), (5, .ptr 1 0), (6, .int .i64 0), (7, .int .i64 y1)]) (by kernel_rfl) ?_
    refine K.draw (by kernel_rfl) (by kernel_rfl) (by kernel_rfl) (H2 := [.box (encSt25 x0), .box (encSt28 x2), .res, .res]) (by kernel_rfl) (n := 2) (by kernel_rfl) ?_
    refine kD 2 ?_
    obtain ⟨y33, hy34, h35⟩ := bindS h31
    refine RJ.call0 (d := (some 21)) (f := 28) (args := [.int .i64 x0.MinSig_]) (v := .int .i64 y33) (tr2 := [([], []), ([0, 1], []), ([], [4, 5])]) (by kernel_rfl) (by kernel_rfl) (.cons (Le.refl _) .nil) (shape_count_ok hy34) (by kernel_rfl) ?_
    refine kD 2 ?_
    obtain ⟨y36, hy37, h38⟩ := bindS h35
    refine RJ.call0 (d := (some 24)) (f := 65) (args := [.agg (encSt28 x2)]) (v := .int .i64 y36) (tr2 := [([], []), ([0, 1], []), ([], [4, 5]), ([], []), ([2, 3], []), ([], [6, 7])]) (by kernel_rfl) (by kernel_rfl) (.cons (Le.refl _) .nil) (dec_Mag_ok hy37) (by kernel_rfl) ?_
    refine RJ.segD 2 (tr2 := [([], []), ([0, 1], []), ([], [4, 5]), ([], []), ([2, 3], []), ([], [6, 7]), ([], []), ([], [])]) (L2 := [(7, .int .i64 ((IntKind.wrap .i64 ((IntKind.wrap .i64 (y33 - 1)) - y36)))), (25, .int .i64 ((IntKind.wrap .i64 ((IntKind.wrap .i64 (y33 - 1)) - y36)))), (24, .int .i64 y36), (23, .agg (encSt28 x2)), (22, .int .i64 (IntKind.wrap .i64 (y33 - 1))), (21, .int .i64 y33), (20, .int .i64 x0.MinSig_), (19, .ptr 0 11), (3, .ptr 0 0), (5, .ptr 1 0), (6, .int .i64 0), (7, .int .i64 y1)]) (H2 := [.box (encSt25 x0), .box (encSt28 x2), .res, .res]) (by kernel_rfl) ?_
    refine kE ?_
    refine PJ.blockNormal ?_
    obtain rfl := oi h38
    refine PJ.wk (Wk.sel (L2 := [(5, .ptr 0 0), (6, .int .i64 0), (7, .int .i64 ((IntKind.wrap .i64 ((IntKind.wrap .i64 (y33 - 1)) - y36))))]) (H2 := [.box (encSt28 x2)]) 0 (by rw [hFH]; rfl) hFD [1] (by kernel_rfl) (by kernel_rfl) (by decide) (by kernel_rfl) (by kernel_rfl) (by kernel_rfl) (by kernel_rfl)) ?_
    exact kN [5, 6, 7]
   ·have h32 := condF hb30 h29
    refine kF ?_
    refine kSR ?_
    refine kC 3 [1,5,6,7,26] ?_
    refine kEN ?_
    refine J.caseB 26 (b := (decide (x1 ≥ 0))) (by kernel_rfl) (fun hb39 => ?_) (fun hb39 => ?_)
    ·have h40 := condT hb39 h32
     refine kT ?_
     refine kR ?_
     refine kC 1 [5,6,7,29] ?_
     obtain ⟨y42, hy43, h44⟩ := bindS h40
     refine RJ.call0 (d := (some 30)) (f := 28) (args := [.int .i64 x1]) (v := .int .i64 y42) (tr2 := []) (by kernel_rfl) (by kernel_rfl) (.cons (Le.refl _) .nil) (shape_count_ok hy43) (by kernel_rfl) ?_
     refine RJ.seg 1 [5, 6, 7] (L2 := [(5, .ptr 1 0), (6, .int .i64 0), (7, .int .i64 y42)]) (H2 := [.box (encSt25 x0), .box (encSt28 x2)]) (by kernel_rfl) ?_
     refine kE ?_
     refine PJ.blockNormal ?_
     obtain rfl := oi h44
     refine PJ.wk (Wk.sel (L2 := [(5, .ptr 0 0), (6, .int .i64 0), (7, .int .i64 y42)]) (H2 := [.box (encSt28 x2)]) 0 (by rw [hFH]; rfl) hFD [1] (by kernel_rfl) (by kernel_rfl) (by decide) (by kernel_rfl) (by kernel_rfl) (by kernel_rfl) (by kernel_rfl)) ?_
     exact kN [5, 6, 7]
    ·have h41 := condF hb39 h32
     refine kF ?_
     refine kK ?_
     refine PJ.blockNormal ?_
     obtain rfl := oi h41
     refine PJ.wk (Wk.sel (L2 := [(5, .ptr 0 0), (6, .int .i64 0), (7, .int .i64 y1)]) (H2 := [.box (encSt28 x2)]) 0 (by rw [hFH]; rfl) hFD [1] (by kernel_rfl) (by kernel_rfl) (by decide) (by kernel_rfl) (by kernel_rfl) (by kernel_rfl) (by kernel_rfl)) ?_
     exact kN [5, 6, 7]
 ·refine kSR ?_
  refine kC 6 [6] ?_
  refine kEN ?_
  refine kX ?_
  obtain rfl := oi h26
  exact kZ hFn hFH hFD

def shape_Figures (x0 : St25) (x1 : Int) (x2 : St28) : Option ((List Int) × (List Int) × Int) :=
 (Option.bind (dec_Right x2) fun y1 => (bif (!y1) then (some (([] : List Int), ([] : List Int), 0)) else (Option.bind (shape_bare x0 x2) fun y7 => (Option.bind (shape_ahead x0 y7.1) fun y10 => (Option.bind (shape_Figures_1_s0 (IntKind.wrap .i64 (y10 - 1)) y10 y7.1.Neg_ y7.1.D_ y7.1.E_) fun y13 => (Option.bind (shape_behind x0 x1 y7.1) fun y16 => (Option.bind (shape_Figures_1_s0 (-1) y16 y7.1.Neg_ y7.1.D_ y7.1.E_) fun y19 => (some (y13, y19, y7.2)))))))))
theorem shape_Figures_ok {x0 : St25} {x1 : Int} {x2 : St28} {r : (List Int) × (List Int) × Int} (h : shape_Figures x0 x1 x2 = some r) : SC Tryz.prog 11 [.agg (encSt25 x0), .int .i64 x1, .agg (encSt28 x2)] [] (.tup [lsv (encI .u8) 1 r.1, lsv (encI .u8) 1 r.2.1, .int .i64 r.2.2]) [] := by
 refine kFn (fn := Tryz.f11) (fun F hFn hFH hFD => ?_)
 unfold shape_Figures at h
 refine kSR ?_
 refine kC 5 [1,3,5,6,7,8] ?_
 refine kEN ?_
 refine kS ?_
 refine kSR ?_
 refine kC 1 [1,3,5,6,7,8,12] ?_
 obtain ⟨y1, hy2, h3⟩ := bindS h
 refine RJ.call0 (d := (some 13)) (f := 32) (args := [.agg (encSt28 x2)]) (v := .bool y1) (tr2 := []) (by kernel_rfl) (by kernel_rfl) (.cons (Le.refl _) .nil) (dec_Right_ok hy2) (by kernel_rfl) ?_
 refine kC 1 [1,3,5,6,7,8,14] ?_
 refine kEN ?_
 refine J.caseB 14 (b := (!y1)) (by kernel_rfl) (fun hb4 => ?_) (fun hb4 => ?_)
 ·have h5 := condT hb4 h3
  refine kT ?_
  refine kSR ?_
  refine RJ.seg 3 [1, 3, 5, 6, 7, 8] (L2 := [(1, .int .i64 x1), (3, .ptr 0 0), (5, .ptr 1 0), (6, .nl), (7, .nl), (8, .int .i64 0)]) (H2 := [.box (encSt25 x0), .box (encSt28 x2)]) (by kernel_rfl) ?_
  refine kEN ?_
  refine kX ?_
  refine PJ.passRet ?_
  obtain rfl := oi h5
  refine PJ.res (v1 := .tup [.nl, .nl, .int .i64 0]) (Le.tup (.cons (Le.nl _) (.cons (Le.nl _) (.cons (Le.refl _) .nil)))) ?_
  exact kZ hFn hFH hFD
 ·have h6 := condF hb4 h3
  refine kF ?_
  refine kK ?_
  refine PJ.next ?_
  refine kSR ?_
  refine RJ.seg 2 [1, 3, 5, 6, 7, 8, 16, 17] (L2 := [(1, .int .i64 x1), (3, .ptr 0 0), (5, .ptr 1 0), (6, .nl), (7, .nl), (8, .int .i64 0), (16, .agg (encSt25 x0)), (17, .agg (encSt28 x2))]) (H2 := [.box (encSt25 x0), .box (encSt28 x2)]) (by kernel_rfl) ?_
  obtain ⟨y7, hy8, h9⟩ := bindS h6
  refine RJ.call0 (d := (some 18)) (f := 33) (args := [.agg (encSt25 x0), .agg (encSt28 x2)]) (v := .tup [.agg (encSt28 y7.1), .int .i64 y7.2]) (tr2 := []) (by kernel_rfl) (by kernel_rfl) (.cons (Le.refl _) (.cons (Le.refl _) .nil)) (shape_bare_ok hy8) (by kernel_rfl) ?_
  refine kC 5 [1,3,5,6,7,8,9] ?_
  refine kEN ?_
  refine kSR ?_
  refine kC 2 [1,3,5,6,7,8,9,10] ?_
  refine kEN ?_
  refine kSR ?_
  refine kC 2 [1,3,5,6,7,8,9,10,22,23] ?_
  obtain ⟨y10, hy11, h12⟩ := bindS h9
  refine RJ.call0 (d := (some 24)) (f := 36) (args := [.agg (encSt25 x0), .agg (encSt28 y7.1)]) (v := .int .i64 y10) (tr2 := []) (by kernel_rfl) (by kernel_rfl) (.cons (Le.refl _) (.cons (Le.refl _) .nil)) (shape_ahead_ok hy11) (by kernel_rfl) ?_
  refine RJ.seg 1 [1, 3, 5, 6, 7, 8, 9, 10, 11] (L2 := [(1, .int .i64 x1), (3, .ptr 0 0), (5, .ptr 1 0), (6, .nl), (7, .nl), (8, .int .i64 0), (9, .int .i64 y7.2), (10, .fn (.func 34) [] [.ptr 1 0]), (11, .int .i64 y10)]) (H2 := [.box (encSt25 x0), .box (encSt28 y7.1)]) (by kernel_rfl) ?_
  refine kEN ?_
  refine kS ?_
  refine J.keep [1, 3, 5, 6, 7, 8, 9, 10, 11] (L2 := [(1, .int .i64 x1), (3, .ptr 0 0), (5, .ptr 1 0), (6, .nl), (7, .nl), (8, .int .i64 0), (9, .int .i64 y7.2), (10, .fn (.func 34) [] [.ptr 1 0]), (11, .int .i64 y10)]) (by kernel_rfl) ?_
  refine K.draw (by kernel_rfl) (by kernel_rfl) (by kernel_rfl) (H2 := [.box (encSt25 x0), .box (encSt28 y7.1), .res, .res, .res]) (by kernel_rfl) (n := 2) (by kernel_rfl) ?_
  refine kD 4 ?_
  obtain ⟨y13, hy14, h15⟩ := bindS h12
  refine RJ.callU (d := (some 29)) (f := 34) (args := [.int .i64 (IntKind.wrap .i64 (y10 - 1)), .int .i64 y10, .ptr 1 0]) (args0 := [.int .i64 (IntKind.wrap .i64 (y10 - 1)), .int .i64 y10, .ptr 0 0]) (v := lsv (encI .u8) 1 y13) (tr2 := [([], []), ([], []), ([], []), ([], []), ([2, 3], [4, 5])]) (H0 := [.box (encSt28 y7.1)]) [1] (by kernel_rfl) (by kernel_rfl) (by kernel_rfl) (by kernel_rfl) (by decide) (by kernel_rfl) (by kernel_rfl) (by kernel_rfl) (.cons (Le.refl _) (.cons (Le.refl _) (.cons (Le.refl _) .nil))) (shape_Figures_1_s0_ok hy14) (by kernel_rfl) ?_
  refine kD 4 ?_
  obtain ⟨y16, hy17, h18⟩ := bindS h15
  refine RJ.call0 (d := (some 34)) (f := 37) (args := [.agg (encSt25 x0), .int .i64 x1, .agg (encSt28 y7.1)]) (v := .int .i64 y16) (tr2 := [([], []), ([], []), ([], []), ([], []), ([2, 3], [4, 5]), ([], []), ([0, 1], []), ([], []), ([2, 3], []), ([], [6, 7])]) (by kernel_rfl) (by kernel_rfl) (.cons (Le.refl _) (.cons (Le.refl _) (.cons (Le.refl _) .nil))) (shape_behind_ok hy17) (by kernel_rfl) ?_
  obtain ⟨y19, hy20, h21⟩ := bindS h18
  refine RJ.callU (d := (some 35)) (f := 34) (args := [.int .i64 (-1), .int .i64 y16, .ptr 1 0]) (args0 := [.int .i64 (-1), .int .i64 y16, .ptr 0 0]) (v := lsv (encI .u8) 1 y19) (tr2 := [([], []), ([], []), ([], []), ([], []), ([2, 3], [4, 5]), ([], []), ([0, 1], []), ([], []), ([2, 3], []), ([], [6, 7]), ([2, 3], [8, 9])]) (H0 := [.box (encSt28 y7.1)]) [1] (by kernel_rfl) (by kernel_rfl) (by kernel_rfl) (by kernel_rfl) (by decide) (by kernel_rfl) (by kernel_rfl) (by kernel_rfl) (.cons (Le.refl _) (.cons (Le.refl _) (.cons (Le.refl _) .nil))) (shape_Figures_1_s0_ok hy20) (by kernel_rfl) ?_
  refine kD 4 ?_
  refine kEN ?_
  refine kX ?_
  obtain rfl := oi h21
  exact kZ hFn hFH hFD

def sym_cut (x0 : Int) (x1 : Int) (x2 : Int) : Option (Bool) :=
 (Option.bind (Option.bind (bif (decide (x1 < 1)) then (some true) else (some (decide (x0 < x1)))) fun (s24 : Bool) => (bif s24 then (some (.inr false)) else (some (.inl ())))) (joinX fun (s16 : Unit) => (Option.bind (bif (decide (x0 = x1)) then (some true) else (bif (decide (x2 > 0)) then (bif nz x2 then (some ((decide (((Int.tmod (IntKind.wrap .i64 (x0 - x1)) x2)) = 0)))) else none) else (some false))) fun (s43 : Bool) => (some s43))))
theorem sym_cut_ok {x0 : Int} {x1 : Int} {x2 : Int} {r : Bool} (h : sym_cut x0 x1 x2 = some r) : SC Tryz.prog 72 [.int .i64 x0, .int .i64 x1, .int .i64 x2] [] (.bool r) [] := by
 refine kFn (fn := Tryz.f72) (fun F hFn hFH hFD => ?_)
 unfold sym_cut at h
 refine kSR ?_
 refine kC 1 [0,1,2,6] ?_
 refine kEN ?_
 obtain ⟨y17, hy18, h19⟩ := bindS h
 refine K.cutX (by kernel_rfl) (fun (s16 : Unit) => ([(0, .int .i64 x0), (1, .int .i64 x1), (2, .int .i64 x2), (6, .bool false)], [])) y17 ?_ (fun s16 hs => ?_)
 ·obtain ⟨s24, hy26, h28⟩ := bindS hy18
  refine K.cutN (by kernel_rfl) (fun (s24 : Bool) => ([(0, .int .i64 x0), (1, .int .i64 x1), (2, .int .i64 x2), (6, .bool false), (13, .bool s24)], [])) s24 ?_ ?_
  ·refine kR ?_
   refine kC 3 [0,1,2,6,9] ?_
   refine RJ.caseB 9 (b := (decide (x1 < 1))) (by kernel_rfl) (fun hb29 => ?_) (fun hb29 => ?_)
   ·have h30 := condT hb29 hy26
    refine kC 4 [0,1,2,6,13] ?_
    refine kE ?_
    obtain rfl := oi h30
    exact kN [0, 1, 2, 6, 13]
   ·have h31 := condF hb29 hy26
    refine kC 4 [0,1,2,6,13] ?_
    refine kE ?_
    obtain rfl := oi h31
    exact kN [0, 1, 2, 6, 13]
  ·refine J.caseB 13 (b := s24) (by kernel_rfl) (fun hb32 => ?_) (fun hb32 => ?_)
   ·have h33 := condT hb32 h28
    refine kT ?_
    refine kSR ?_
    refine kC 1 [0,1,2,6] ?_
    refine kEN ?_
    refine kX ?_
    obtain rfl := oi h33
    have h35 := joinX_inr h19
    refine PJ.cutXr (fun e => nomatch e) ?_
    obtain rfl := oi h35
    exact kZ hFn hFH hFD
   ·have h34 := condF hb32 h28
    refine kF ?_
    refine kK ?_
    obtain rfl := oi h34
    exact PJ.cutXl [0, 1, 2, 6] (by kernel_rfl) (by kernel_rfl)
 ·subst hs
  have h20 := joinX_inl h19
  obtain ⟨s43, hy45, h47⟩ := bindS h20
  refine K.cutN (by kernel_rfl) (fun (s43 : Bool) => ([(6, .bool s43)], [])) s43 ?_ ?_
  ·refine kR ?_
   refine kC 4 [0,1,2,6,17] ?_
   refine RJ.caseB 17 (b := (decide (x0 = x1))) (by kernel_rfl) (fun hb48 => ?_) (fun hb48 => ?_)
   ·have h49 := condT hb48 hy45
    refine kC 12 [6] ?_
    refine kE ?_
    obtain rfl := oi h49
    exact kN [6]
   ·have h50 := condF hb48 hy45
    refine kC 3 [0,1,2,6,17,20] ?_
    refine RJ.caseB 20 (b := (decide (x2 > 0))) (by kernel_rfl) (fun hb51 => ?_) (fun hb51 => ?_)
    ·have h52 := condT hb51 h50
     refine kC 4 [6,17,20,23,24] ?_
     obtain ⟨hm, h54⟩ := asrt h52
     refine RJ.rel (d := (some 25)) (ef := ⟨.int .i64 (Int.tmod (IntKind.wrap .i64 (x0 - x1)) x2), [], []⟩) (ef' := ⟨.int .i64 (Int.tmod (IntKind.wrap .i64 (x0 - x1)) x2), [], []⟩) (c := nz x2) (tr2 := []) (H2 := []) (by kernel_rfl) hm (fun hc => rfl) (by kernel_rfl) ?_
     refine RJ.seg 4 [6] (L2 := [(6, .bool ((decide (((Int.tmod (IntKind.wrap .i64 (x0 - x1)) x2)) = 0))))]) (H2 := []) (by kernel_rfl) ?_
     refine kE ?_
     obtain rfl := oi h54
     exact kN [6]
    ·have h53 := condF hb51 h50
     refine kC 9 [6] ?_
     refine kE ?_
     obtain rfl := oi h53
     exact kN [6]
  ·refine kX ?_
   obtain rfl := oi h47
   exact kZ hFn hFH hFD

def sym_Grouped (x0 : St22) (x1 : List Int) (x2 : Int) (x3 : Int) : Option (List Int) :=
 (Option.bind (loopN (fun (s333 : Int × (List Int)) => (bif (decide (s333.1 < (x1.length : Int))) then (Option.bind (Option.bind (Option.bind (bif (decide (s333.1 > 0)) then (Option.bind (sym_cut ((IntKind.wrap .i64 ((x1.length : Int) - s333.1))) x2 x3) fun y649 => (some y649)) else (some false)) fun (s641 : Bool) => (bif s641 then (bif room (s333.2.length + ([x0.Group_] : List Int).length) then (some (s333.2 ++ ([x0.Group_] : List Int))) else none) else (some s333.2))) fun (s630 : (List Int)) => (bif inR s333.1 x1.length then (bif room (s630.length + (([(IntKind.wrap .i32 (x0.Zero_ + (IntKind.wrap .i32 (nth x1 s333.1))))] : List Int)).length) then (some ((s630 ++ (([(IntKind.wrap .i32 (x0.Zero_ + (IntKind.wrap .i32 (nth x1 s333.1))))] : List Int))))) else none) else none)) fun (s604 : (List Int)) => (some (.inl ((IntKind.wrap .i64 (s333.1 + 1)), s604)))) else (some (.inr s333.2)))) big (0, ([] : List Int))) fun (s328 : (List Int)) => (some s328))
theorem sym_Grouped_ok_o {x0 : St22} {x1 : List Int} {x2 : Int} {x3 : Int} {r : List Int} (h : sym_Grouped x0 x1 x2 x3 = some r) : SC Tryz.prog 40 [.agg (encSt22 x0), lsv (encI .u8) 1 x1, .int .i64 x2, .int .i64 x3] [] (.vc 0) [vecL (encI .i32) 1 21 r] := by
 refine kFn (fn := Tryz.f40) (fun F hFn hFH hFD => ?_)
 unfold sym_Grouped at h
 refine kSR ?_
 refine kC 2 [1,2,3,4,8] ?_
 refine kEN ?_
 refine kSR ?_
 refine kC 1 [1,2,3,4,8,9] ?_
 refine kEN ?_
 obtain ⟨s328, hy330, h332⟩ := bindS h
 refine K.cutN (by kernel_rfl) (fun (s328 : (List Int)) => ([(8, .nl), (9, .vc 0)], [vecL (encI .i32) 1 21 s328])) s328 ?_ ?_
 ·refine kSR ?_
  refine kC 3 [1,2,3,4,8,9,12,13] ?_
  refine kEN ?_
  refine K.block 0 (by kernel_rfl) ?_
  refine J.wk (Wk.viv 9 1 21 (by kernel_rfl)) ?_
  refine K.loop (by kernel_rfl) (fun (s333 : Int × (List Int)) => ([(1, lsv (encI .u8) 1 x1), (2, .int .i64 x2), (3, .int .i64 x3), (4, .ptr 0 0), (8, .nl), (9, .vc 1), (12, .int .i64 (x1.length : Int)), (13, .int .i64 s333.1)], [.box (encSt22 x0), vecL (encI .i32) 1 21 s333.2])) hy330 [1, 2, 3, 4, 8, 9, 12, 13] (by kernel_rfl) (by kernel_rfl) (fun s333 x551 hs550 => ?_)
  refine kSR ?_
  refine kC 1 [1,2,3,4,8,9,12,13,14] ?_
  refine kEN ?_
  refine kS ?_
  refine J.caseB 14 (b := (decide (s333.1 < (x1.length : Int)))) (by kernel_rfl) (fun hb552 => ?_) (fun hb552 => ?_)
  ·have h553 := condT hb552 hs550
   refine kT ?_
   refine kK ?_
   refine PJ.next ?_
   obtain ⟨s604, hy606, h608⟩ := bindS h553
   refine K.cutN (by kernel_rfl) (fun (s604 : (List Int)) => ([(1, lsv (encI .u8) 1 x1), (2, .int .i64 x2), (3, .int .i64 x3), (4, .ptr 0 0), (8, .nl), (9, .vc 1), (12, .int .i64 (x1.length : Int)), (13, .int .i64 s333.1)], [.box (encSt22 x0), vecL (encI .i32) 1 21 s604])) s604 ?_ ?_
   ·refine K.block 1 (by kernel_rfl) ?_
    refine kSR ?_
    refine kC 2 [1,2,3,4,8,9,10,12,13] ?_
    refine kEN ?_
    obtain ⟨s630, hy632, h634⟩ := bindS hy606
    refine K.cutN (by kernel_rfl) (fun (s630 : (List Int)) => ([(1, lsv (encI .u8) 1 x1), (2, .int .i64 x2), (3, .int .i64 x3), (4, .ptr 0 0), (8, .nl), (9, .vc 1), (10, .int .i64 s333.1), (12, .int .i64 (x1.length : Int)), (13, .int .i64 s333.1)], [.box (encSt22 x0), vecL (encI .i32) 1 21 s630])) s630 ?_ ?_
    ·obtain ⟨s641, hy643, h645⟩ := bindS hy632
     refine K.cutN (by kernel_rfl) (fun (s641 : Bool) => ([(1, lsv (encI .u8) 1 x1), (2, .int .i64 x2), (3, .int .i64 x3), (4, .ptr 0 0), (8, .nl), (9, .vc 1), (10, .int .i64 s333.1), (12, .int .i64 (x1.length : Int)), (13, .int .i64 s333.1), (26, .bool s641)], [.box (encSt22 x0), vecL (encI .i32) 1 21 s333.2])) s641 ?_ ?_
     ·refine kR ?_
      refine kC 3 [1,2,3,4,8,9,10,12,13,18] ?_
      refine RJ.caseB 18 (b := (decide (s333.1 > 0))) (by kernel_rfl) (fun hb646 => ?_) (fun hb646 => ?_)
      ·have h647 := condT hb646 hy643
       refine RJ.seg 6 [1, 2, 3, 4, 8, 9, 10, 12, 13, 18, 22, 23, 24] (L2 := [(1, lsv (encI .u8) 1 x1), (2, .int .i64 x2), (3, .int .i64 x3), (4, .ptr 0 0), (8, .nl), (9, .vc 1), (10, .int .i64 s333.1), (12, .int .i64 (x1.length : Int)), (13, .int .i64 s333.1), (18, .bool true), (22, .int .i64 ((IntKind.wrap .i64 ((x1.length : Int) - s333.1)))), (23, .int .i64 x2), (24, .int .i64 x3)]) (H2 := [.box (encSt22 x0), vecL (encI .i32) 1 21 s333.2]) (by kernel_rfl) ?_
       obtain ⟨y649, hy650, h651⟩ := bindS h647
       refine RJ.call0 (d := (some 25)) (f := 72) (args := [.int .i64 ((IntKind.wrap .i64 ((x1.length : Int) - s333.1))), .int .i64 x2, .int .i64 x3]) (v := .bool y649) (tr2 := []) (by kernel_rfl) (by kernel_rfl) (.cons (Le.refl _) (.cons (Le.refl _) (.cons (Le.refl _) .nil))) (sym_cut_ok hy650) (by kernel_rfl) ?_
       refine kC 1 [1,2,3,4,8,9,10,12,13,26] ?_
       refine kE ?_
       obtain rfl := oi h651
       exact kN [1, 2, 3, 4, 8, 9, 10, 12, 13, 26]
      ·have h648 := condF hb646 hy643
       refine RJ.seg 8 [1, 2, 3, 4, 8, 9, 10, 12, 13, 26] (L2 := [(1, lsv (encI .u8) 1 x1), (2, .int .i64 x2), (3, .int .i64 x3), (4, .ptr 0 0), (8, .nl), (9, .vc 1), (10, .int .i64 s333.1), (12, .int .i64 (x1.length : Int)), (13, .int .i64 s333.1), (26, .bool false)]) (H2 := [.box (encSt22 x0), vecL (encI .i32) 1 21 s333.2]) (by kernel_rfl) ?_
       refine kE ?_
       obtain rfl := oi h648
       exact kN [1, 2, 3, 4, 8, 9, 10, 12, 13, 26]
     ·refine J.caseB 26 (b := s641) (by kernel_rfl) (fun hb652 => ?_) (fun hb652 => ?_)
      ·have h653 := condT hb652 h645
       refine kT ?_
       refine kR ?_
       refine kC 4 [1,2,3,4,8,9,10,12,13,27,30] ?_
       obtain ⟨hm, h655⟩ := asrt h653
       refine RJ.rel (d := (some 31)) (ef := ⟨.vc 3, [1, 2], [(1, .gone), (3, .vec (s333.2.length + ([x0.Group_] : List Int).length) 1 21 (s333.2.flatMap (encI .i32) ++ ([x0.Group_] : List Int).flatMap (encI .i32)))]⟩) (ef' := ⟨.vc 3, [1, 2], [(1, .gone), (3, vecL (encI .i32) 1 21 (s333.2 ++ ([x0.Group_] : List Int)))]⟩) (c := room (s333.2.length + ([x0.Group_] : List Int).length)) (tr2 := []) (H2 := [.box (encSt22 x0), .gone, vecL (encI .i32) 1 21 ([x0.Group_] : List Int), vecL (encI .i32) 1 21 (s333.2 ++ ([x0.Group_] : List Int))]) (by kernel_rfl) hm (fun hc => N.app) (by kernel_rfl) ?_
       refine kC 1 [1,2,3,4,8,9,10,12,13] ?_
       refine kE ?_
       obtain rfl := oi h655
       refine PJ.wk (Wk.sel (L2 := [(1, lsv (encI .u8) 1 x1), (2, .int .i64 x2), (3, .int .i64 x3), (4, .ptr 0 0), (8, .nl), (9, .vc 1), (10, .int .i64 s333.1), (12, .int .i64 (x1.length : Int)), (13, .int .i64 s333.1)]) (H2 := [.box (encSt22 x0), vecL (encI .i32) 1 21 (s333.2 ++ ([x0.Group_] : List Int))]) 0 (by rw [hFH]; rfl) hFD [0, 3] (by kernel_rfl) (by kernel_rfl) (by decide) (by kernel_rfl) (by kernel_rfl) (by kernel_rfl) (by kernel_rfl)) ?_
       exact kN [1, 2, 3, 4, 8, 9, 10, 12, 13]
      ·have h654 := condF hb652 h645
       refine kF ?_
       refine kK ?_
       obtain rfl := oi h654
       exact kN [1, 2, 3, 4, 8, 9, 10, 12, 13]
    ·refine J.keep [1, 2, 3, 4, 8, 9, 10, 12, 13] (L2 := [(1, lsv (encI .u8) 1 x1), (2, .int .i64 x2), (3, .int .i64 x3), (4, .ptr 0 0), (8, .nl), (9, .vc 1), (10, .int .i64 s333.1), (12, .int .i64 (x1.length : Int)), (13, .int .i64 s333.1)]) (by kernel_rfl) ?_
     refine K.draw (by kernel_rfl) (by kernel_rfl) (by kernel_rfl) (H2 := [.box (encSt22 x0), vecL (encI .i32) 1 21 s630, .res, .res]) (by kernel_rfl) (n := 2) (by kernel_rfl) ?_
     refine kD 5 ?_
     obtain ⟨hm, h656⟩ := asrt h634
     refine RJ.rel (d := (some 37)) (ef := ⟨.ep (((x1.flatMap (encI .u8)).drop ((s333.1 : Int).toNat * 1)).take 1), [], []⟩) (ef' := ⟨.ep ((encI .u8) (nth x1 s333.1)), [], []⟩) (c := inR s333.1 x1.length) (tr2 := [([], []), ([], []), ([0, 1], []), ([], []), ([], []), ([], [])]) (H2 := [.box (encSt22 x0), vecL (encI .i32) 1 21 s630, .res, .res]) (by kernel_rfl) hm (fun hc => N.idx (encI_len .u8) hc) (by kernel_rfl) ?_
     refine kD 4 ?_
     obtain ⟨hm, h657⟩ := asrt h656
     refine RJ.rel (d := (some 42)) (ef := ⟨.vc 3, [1, 2], [(1, .gone), (3, .vec (s630.length + (([(IntKind.wrap .i32 (x0.Zero_ + (IntKind.wrap .i32 (nth x1 s333.1))))] : List Int)).length) 1 21 (s630.flatMap (encI .i32) ++ (([(IntKind.wrap .i32 (x0.Zero_ + (IntKind.wrap .i32 (nth x1 s333.1))))] : List Int)).flatMap (encI .i32)))]⟩) (ef' := ⟨.vc 3, [1, 2], [(1, .gone), (3, vecL (encI .i32) 1 21 (s630 ++ (([(IntKind.wrap .i32 (x0.Zero_ + (IntKind.wrap .i32 (nth x1 s333.1))))] : List Int))))]⟩) (c := room (s630.length + (([(IntKind.wrap .i32 (x0.Zero_ + (IntKind.wrap .i32 (nth x1 s333.1))))] : List Int)).length)) (tr2 := [([], []), ([], []), ([0, 1], []), ([], []), ([], []), ([], []), ([], []), ([], []), ([], []), ([], [4, 5, 4, 5]), ([2, 3, 4, 5], [2, 3, 6, 7, 6, 7])]) (H2 := [.box (encSt22 x0), .gone, vecL (encI .i32) 1 21 (([(IntKind.wrap .i32 (x0.Zero_ + (IntKind.wrap .i32 (nth x1 s333.1))))] : List Int)), vecL (encI .i32) 1 21 ((s630 ++ (([(IntKind.wrap .i32 (x0.Zero_ + (IntKind.wrap .i32 (nth x1 s333.1))))] : List Int))))]) (by kernel_rfl) hm (fun hc => N.app) (by kernel_rfl) ?_
     refine kD 1 ?_
     refine kE ?_
     refine PJ.blockNormal ?_
     obtain rfl := oi h657
     refine PJ.wk (Wk.sel (L2 := [(1, lsv (encI .u8) 1 x1), (2, .int .i64 x2), (3, .int .i64 x3), (4, .ptr 0 0), (8, .nl), (9, .vc 1), (12, .int .i64 (x1.length : Int)), (13, .int .i64 s333.1)]) (H2 := [.box (encSt22 x0), vecL (encI .i32) 1 21 ((s630 ++ (([(IntKind.wrap .i32 (x0.Zero_ + (IntKind.wrap .i32 (nth x1 s333.1))))] : List Int))))]) 0 (by rw [hFH]; rfl) hFD [0, 3] (by kernel_rfl) (by kernel_rfl) (by decide) (by kernel_rfl) (by kernel_rfl) (by kernel_rfl) (by kernel_rfl)) ?_
     exact kN [1, 2, 3, 4, 8, 9, 12, 13]
   ·refine kR ?_
    refine kC 2 [1,2,3,4,8,9,12,13] ?_
    refine kE ?_
    obtain rfl := oi h608
    exact PJ.loopNext [1, 2, 3, 4, 8, 9, 12, 13] (by kernel_rfl) (by kernel_rfl)
  ·have h554 := condF hb552 hs550
   refine kF ?_
   refine K.exit 0 (by kernel_rfl) ?_
   refine PJ.passExit ?_
   obtain rfl := oi h554
   refine PJ.loopOut (fun e => nomatch e) (fun he659 => ?_)
   have h658 := congrArg some he659
   refine PJ.blockOut ?_
   obtain rfl := oi h658
   refine PJ.wk (Wk.sel (L2 := [(8, .nl), (9, .vc 0)]) (H2 := [vecL (encI .i32) 1 21 s333.2]) 0 (by rw [hFH]; rfl) hFD [1] (by kernel_rfl) (by kernel_rfl) (by decide) (by kernel_rfl) (by kernel_rfl) (by kernel_rfl) (by kernel_rfl)) ?_
   exact kN [8, 9]
 ·refine kSR ?_
  refine kC 2 [8] ?_
  refine kEN ?_
  refine kX ?_
  obtain rfl := oi h332
  exact K.retV (H0 := []) [0] (.inr rfl) hFn hFH hFD (by kernel_rfl) (v1 := .vc 0) (by kernel_rfl) (by kernel_rfl) (by kernel_rfl) (by decide) (by kernel_rfl) (by kernel_rfl) (by kernel_rfl) (by kernel_rfl) (by kernel_rfl)

def sym_Digits (x0 : St22) (x1 : List Int) : Option (List Int) :=
 (Option.bind (loopN (fun (s30 : Int × (List Int)) => (bif (decide (s30.1 < (x1.length : Int))) then (bif inR s30.1 x1.length then (bif room (s30.2.length + (([(IntKind.wrap .i32 (x0.Zero_ + (IntKind.wrap .i32 (nth x1 s30.1))))] : List Int)).length) then (some (.inl ((IntKind.wrap .i64 (s30.1 + 1)), (s30.2 ++ (([(IntKind.wrap .i32 (x0.Zero_ + (IntKind.wrap .i32 (nth x1 s30.1))))] : List Int)))))) else none) else none) else (some (.inr s30.2)))) big (0, ([] : List Int))) fun (s25 : (List Int)) => (some s25))
theorem sym_Digits_ok {x0 : St22} {x1 : List Int} {r : List Int} (h : sym_Digits x0 x1 = some r) : SC Tryz.prog 41 [.agg (encSt22 x0), lsv (encI .u8) 1 x1] [] (lsv (encI .i32) 1 r) [] := by
 refine kFn (fn := Tryz.f41) (fun F hFn hFH hFD => ?_)
 unfold sym_Digits at h
 refine kSR ?_
 refine kC 2 [1,2,4] ?_
 refine kEN ?_
 refine kSR ?_
 refine kC 1 [1,2,4,5] ?_
 refine kEN ?_
 obtain ⟨s25, hy27, h29⟩ := bindS h
 refine K.cutN (by kernel_rfl) (fun (s25 : (List Int)) => ([(4, .nl), (5, .vc 0)], [vecL (encI .i32) 1 21 s25])) s25 ?_ ?_
 ·refine kSR ?_
  refine kC 3 [2,4,5,8,9,10] ?_
  refine kEN ?_
  refine K.block 0 (by kernel_rfl) ?_
  refine J.wk (Wk.viv 5 1 21 (by kernel_rfl)) ?_
  refine K.loop (by kernel_rfl) (fun (s30 : Int × (List Int)) => ([(2, .ptr 0 0), (4, .nl), (5, .vc 1), (8, lsv (encI .u8) 1 x1), (9, .int .i64 (x1.length : Int)), (10, .int .i64 s30.1)], [.box (encSt22 x0), vecL (encI .i32) 1 21 s30.2])) hy27 [2, 4, 5, 8, 9, 10] (by kernel_rfl) (by kernel_rfl) (fun s30 x46 hs45 => ?_)
  refine kSR ?_
  refine kC 1 [2,4,5,8,9,10,11] ?_
  refine kEN ?_
  refine kS ?_
  refine J.caseB 11 (b := (decide (s30.1 < (x1.length : Int)))) (by kernel_rfl) (fun hb47 => ?_) (fun hb47 => ?_)
  ·have h48 := condT hb47 hs45
   refine kT ?_
   refine kK ?_
   refine PJ.next ?_
   refine kS ?_
   refine K.block 1 (by kernel_rfl) ?_
   refine kSR ?_
   obtain ⟨hm, h50⟩ := asrt h48
   refine RJ.rel (d := (some 12)) (ef := ⟨.ep (((x1.flatMap (encI .u8)).drop ((s30.1 : Int).toNat * 1)).take 1), [], []⟩) (ef' := ⟨.ep ((encI .u8) (nth x1 s30.1)), [], []⟩) (c := inR s30.1 x1.length) (tr2 := []) (H2 := [.box (encSt22 x0), vecL (encI .i32) 1 21 s30.2]) (by kernel_rfl) hm (fun hc => N.idx (encI_len .u8) hc) (by kernel_rfl) ?_
   refine kC 2 [2,4,5,7,8,9,10] ?_
   refine kEN ?_
   refine kR ?_
   refine kC 7 [2,4,5,8,9,10,14,20] ?_
   obtain ⟨hm, h51⟩ := asrt h50
   refine RJ.rel (d := (some 21)) (ef := ⟨.vc 3, [1, 2], [(1, .gone), (3, .vec (s30.2.length + (([(IntKind.wrap .i32 (x0.Zero_ + (IntKind.wrap .i32 (nth x1 s30.1))))] : List Int)).length) 1 21 (s30.2.flatMap (encI .i32) ++ (([(IntKind.wrap .i32 (x0.Zero_ + (IntKind.wrap .i32 (nth x1 s30.1))))] : List Int)).flatMap (encI .i32)))]⟩) (ef' := ⟨.vc 3, [1, 2], [(1, .gone), (3, vecL (encI .i32) 1 21 (s30.2 ++ (([(IntKind.wrap .i32 (x0.Zero_ + (IntKind.wrap .i32 (nth x1 s30.1))))] : List Int))))]⟩) (c := room (s30.2.length + (([(IntKind.wrap .i32 (x0.Zero_ + (IntKind.wrap .i32 (nth x1 s30.1))))] : List Int)).length)) (tr2 := []) (H2 := [.box (encSt22 x0), .gone, vecL (encI .i32) 1 21 (([(IntKind.wrap .i32 (x0.Zero_ + (IntKind.wrap .i32 (nth x1 s30.1))))] : List Int)), vecL (encI .i32) 1 21 ((s30.2 ++ (([(IntKind.wrap .i32 (x0.Zero_ + (IntKind.wrap .i32 (nth x1 s30.1))))] : List Int))))]) (by kernel_rfl) hm (fun hc => N.app) (by kernel_rfl) ?_
   refine RJ.seg 1 [2, 4, 5, 8, 9, 10] (L2 := [(2, .ptr 0 0), (4, .nl), (5, .vc 3), (8, lsv (encI .u8) 1 x1), (9, .int .i64 (x1.length : Int)), (10, .int .i64 s30.1)]) (H2 := [.box (encSt22 x0), .gone, vecL (encI .i32) 1 21 (([(IntKind.wrap .i32 (x0.Zero_ + (IntKind.wrap .i32 (nth x1 s30.1))))] : List Int)), vecL (encI .i32) 1 21 ((s30.2 ++ (([(IntKind.wrap .i32 (x0.Zero_ + (IntKind.wrap .i32 (nth x1 s30.1))))] : List Int))))]) (by kernel_rfl) ?_
   refine kE ?_
   refine PJ.blockNormal ?_
   refine PJ.next ?_
   refine kR ?_
   refine kC 2 [2,4,5,8,9,10] ?_
   refine kE ?_
   obtain rfl := oi h51
   refine PJ.wk (Wk.sel (L2 := [(2, .ptr 0 0), (4, .nl), (5, .vc 1), (8, lsv (encI .u8) 1 x1), (9, .int .i64 (x1.length : Int)), (10, .int .i64 (IntKind.wrap .i64 (s30.1 + 1)))]) (H2 := [.box (encSt22 x0), vecL (encI .i32) 1 21 ((s30.2 ++ (([(IntKind.wrap .i32 (x0.Zero_ + (IntKind.wrap .i32 (nth x1 s30.1))))] : List Int))))]) 0 (by rw [hFH]; rfl) hFD [0, 3] (by kernel_rfl) (by kernel_rfl) (by decide) (by kernel_rfl) (by kernel_rfl) (by kernel_rfl) (by kernel_rfl)) ?_
   exact PJ.loopNext [2, 4, 5, 8, 9, 10] (by kernel_rfl) (by kernel_rfl)
  ·have h49 := condF hb47 hs45
   refine kF ?_
   refine K.exit 0 (by kernel_rfl) ?_
   refine PJ.passExit ?_
   obtain rfl := oi h49
   refine PJ.loopOut (fun e => nomatch e) (fun he53 => ?_)
   have h52 := congrArg some he53
   refine PJ.blockOut ?_
   obtain rfl := oi h52
   refine PJ.wk (Wk.sel (L2 := [(4, .nl), (5, .vc 0)]) (H2 := [vecL (encI .i32) 1 21 s30.2]) 0 (by rw [hFH]; rfl) hFD [1] (by kernel_rfl) (by kernel_rfl) (by decide) (by kernel_rfl) (by kernel_rfl) (by kernel_rfl) (by kernel_rfl)) ?_
   exact kN [4, 5]
 ·refine kSR ?_
  refine kC 2 [4] ?_
  refine kEN ?_
  refine kX ?_
  obtain rfl := oi h29
  refine PJ.wk (Wk.freeze 0 (n := s25.length) (k := 1) (e := 21) (cs := s25.flatMap (encI .i32)) (by kernel_rfl)) ?_
  exact kZ hFn hFH hFD

def shape_spell : Nat → Int → Int → Option (List Int)
 | 0, _, _ => none
 | n + 1, x0, x1 => (Option.bind (Option.bind (bif (decide (x0 = 0)) then (some (decide (x1 < 1))) else (some false)) fun (s24 : Bool) => (bif s24 then (some (.inr ([] : List Int))) else (some (.inl ())))) (joinX fun (s16 : Unit) => (Option.bind (shape_spell n (IntKind.wrap .i64 (Int.tdiv x0 10)) (IntKind.wrap .i64 (x1 - 1))) fun y36 => (bif room (y36.length + (([(IntKind.wrap .u8 (Int.tmod x0 10))] : List Int)).length) then (some (y36 ++ (([(IntKind.wrap .u8 (Int.tmod x0 10))] : List Int)))) else none))))
theorem shape_spell_ok_o : ∀ (n : Nat) {x0 : Int} {x1 : Int} {r : List Int} (h : shape_spell n x0 x1 = some r), SC Tryz.prog 73 [.int .i64 x0, .int .i64 x1] [] (.vc 0) [vecL (encI .u8) 1 5 r] := by
 intro n
 induction n with
 | zero => intro x0 x1 r h; cases h
 | succ n ih =>
 intro x0 x1 r h
 refine kFn (fn := Tryz.f73) (fun F hFn hFH hFD => ?_)
 rw [shape_spell.eq_2] at h
 refine kSR ?_
 refine kC 1 [0,1,4] ?_
 refine kEN ?_
 obtain ⟨y17, hy18, h19⟩ := bindS h
 refine K.cutX (by kernel_rfl) (fun (s16 : Unit) => ([(0, .int .i64 x0), (1, .int .i64 x1), (4, .nl)], [])) y17 ?_ (fun s16 hs => ?_)
 ·obtain ⟨s24, hy26, h28⟩ := bindS hy18
  refine K.cutN (by kernel_rfl) (fun (s24 : Bool) => ([(0, .int .i64 x0), (1, .int .i64 x1), (4, .nl), (10, .bool s24)], [])) s24 ?_ ?_
  ·refine kR ?_
   refine kC 3 [0,1,4,7] ?_
   refine RJ.caseB 7 (b := (decide (x0 = 0))) (by kernel_rfl) (fun hb29 => ?_) (fun hb29 => ?_)
   ·have h30 := condT hb29 hy26
    refine kC 3 [0,1,4,10] ?_
    refine kE ?_
    obtain rfl := oi h30
    exact kN [0, 1, 4, 10]
   ·have h31 := condF hb29 hy26
    refine kC 3 [0,1,4,10] ?_
    refine kE ?_
    obtain rfl := oi h31
    exact kN [0, 1, 4, 10]
  ·refine J.caseB 10 (b := s24) (by kernel_rfl) (fun hb32 => ?_) (fun hb32 => ?_)
   ·have h33 := condT hb32 h28
    refine kT ?_
    refine kSR ?_
    refine kC 1 [0,1,4] ?_
    refine kEN ?_
    refine kX ?_
    obtain rfl := oi h33
    have h35 := joinX_inr h19
    refine PJ.cutXr (fun e => nomatch e) ?_
    obtain rfl := oi h35
    refine PJ.wk (Wk.viv 4 1 5 (by kernel_rfl)) ?_
    exact K.retV (H0 := []) [0] (.inr rfl) hFn hFH hFD (by kernel_rfl) (v1 := .vc 0) (by kernel_rfl) (by kernel_rfl) (by kernel_rfl) (by decide) (by kernel_rfl) (by kernel_rfl) (by kernel_rfl) (by kernel_rfl) (by kernel_rfl)
   ·have h34 := condF hb32 h28
    refine kF ?_
    refine kK ?_
    obtain rfl := oi h34
    exact PJ.cutXl [0, 1, 4] (by kernel_rfl) (by kernel_rfl)
 ·subst hs
  have h20 := joinX_inl h19
  refine kSR ?_
  refine kC 4 [0,4,12,14] ?_
  obtain ⟨y36, hy37, h38⟩ := bindS h20
  refine RJ.callG (d := (some 15)) (f := 73) (args := [.int .i64 (IntKind.wrap .i64 (Int.tdiv x0 10)), .int .i64 (IntKind.wrap .i64 (x1 - 1))]) (args0 := [.int .i64 (IntKind.wrap .i64 (Int.tdiv x0 10)), .int .i64 (IntKind.wrap .i64 (x1 - 1))]) (v0 := .vc 0) (v := .vc 0) (tr2 := []) (H0 := []) (H0' := [vecL (encI .u8) 1 5 y36]) (H2 := [vecL (encI .u8) 1 5 y36]) [] (by kernel_rfl) (by kernel_rfl) (by kernel_rfl) (by kernel_rfl) (by decide) (by kernel_rfl) (by kernel_rfl) (by kernel_rfl) (.cons (Le.refl _) (.cons (Le.refl _) .nil)) (ih hy37) (by kernel_rfl) (by kernel_rfl) (by kernel_rfl) ?_
  refine kC 4 [4,15,19] ?_
  obtain ⟨hm, h39⟩ := asrt h38
  refine RJ.rel (d := (some 20)) (ef := ⟨.vc 2, [0, 1], [(0, .gone), (2, .vec (y36.length + (([(IntKind.wrap .u8 (Int.tmod x0 10))] : List Int)).length) 1 5 (y36.flatMap (encI .u8) ++ (([(IntKind.wrap .u8 (Int.tmod x0 10))] : List Int)).flatMap (encI .u8)))]⟩) (ef' := ⟨.vc 2, [0, 1], [(0, .gone), (2, vecL (encI .u8) 1 5 (y36 ++ (([(IntKind.wrap .u8 (Int.tmod x0 10))] : List Int))))]⟩) (c := roomB (y36.length + (([(IntKind.wrap .u8 (Int.tmod x0 10))] : List Int)).length)) (tr2 := []) (H2 := [.gone, vecL (encI .u8) 1 5 (([(IntKind.wrap .u8 (Int.tmod x0 10))] : List Int)), vecL (encI .u8) 1 5 ((y36 ++ (([(IntKind.wrap .u8 (Int.tmod x0 10))] : List Int))))]) (by kernel_rfl) (roomB_of_room hm) (fun hc => N.app) (by kernel_rfl) ?_
  refine kC 1 [4] ?_
  refine kEN ?_
  refine kX ?_
  obtain rfl := oi h39
  exact K.retV (H0 := []) [2] (.inr rfl) hFn hFH hFD (by kernel_rfl) (v1 := .vc 2) (by kernel_rfl) (by kernel_rfl) (by kernel_rfl) (by decide) (by kernel_rfl) (by kernel_rfl) (by kernel_rfl) (by kernel_rfl) (by kernel_rfl)

def shape_exponent (x0 : St22) (x1 : St25) (x2 : Int) : Option (List Int) :=
 (Option.bind (bif (decide (x2 < 0)) then (bif room ([x0.Minus_] : List Int).length then (some ((IntKind.wrap .i64 (0 - x2)), ([x0.Minus_] : List Int))) else none) else (bif x1.ExpPlus_ then (bif room ([x0.Plus_] : List Int).length then (some (x2, ([x0.Plus_] : List Int))) else none) else (some (x2, ([] : List Int))))) fun (s9 : Int × (List Int)) => (Option.bind (shape_count x1.Exp_) fun y22 => (Option.bind (shape_spell big s9.1 y22) fun y25 => (Option.bind (sym_Digits x0 y25) fun y28 => (bif room (s9.2.length + y28.length) then (some (s9.2 ++ y28)) else none)))))
theorem shape_exponent_ok {x0 : St22} {x1 : St25} {x2 : Int} {r : List Int} (h : shape_exponent x0 x1 x2 = some r) : SC Tryz.prog 42 [.agg (encSt22 x0), .agg (encSt25 x1), .int .i64 x2] [] (lsv (encI .i32) 1 r) [] := by
 refine kFn (fn := Tryz.f42) (fun F hFn hFH hFD => ?_)
 unfold shape_exponent at h
 refine kSR ?_
 refine kC 3 [2,3,4,6] ?_
 refine kEN ?_
 refine kSR ?_
 refine kC 1 [2,3,4,6,7] ?_
 refine kEN ?_
 obtain ⟨s9, hy11, h13⟩ := bindS h
 refine K.cutN (by kernel_rfl) (fun (s9 : Int × (List Int)) => ([(2, .int .i64 s9.1), (3, .ptr 0 0), (4, .ptr 1 0), (6, .nl), (7, .vc 2)], [.box (encSt22 x0), .box (encSt25 x1), vecL (encI .i32) 1 21 s9.2])) s9 ?_ ?_
 ·refine K.block 0 (by kernel_rfl) ?_
  refine kSR ?_
  refine kC 3 [2,3,4,6,7,8] ?_
  refine kEN ?_
  refine J.caseB 8 (b := (decide (x2 < 0))) (by kernel_rfl) (fun hb14 => ?_) (fun hb14 => ?_)
  ·have h15 := condT hb14 hy11
   refine kT ?_
   refine kSR ?_
   refine RJ.seg 4 [2, 3, 4, 6, 7, 11, 14] (L2 := [(2, .int .i64 x2), (3, .ptr 0 0), (4, .ptr 1 0), (6, .nl), (7, .nl), (11, .nl), (14, .vc 2)]) (H2 := [.box (encSt22 x0), .box (encSt25 x1), vecL (encI .i32) 1 21 ([x0.Minus_] : List Int)]) (by kernel_rfl) ?_
   obtain ⟨hm, h17⟩ := asrt h15
   refine RJ.rel (d := (some 15)) (ef := ⟨.vc 3, [2], [(3, .vec ([x0.Minus_] : List Int).length 1 21 (([x0.Minus_] : List Int).flatMap (encI .i32)))]⟩) (ef' := ⟨.vc 3, [2], [(3, .vec ([x0.Minus_] : List Int).length 1 21 (([x0.Minus_] : List Int).flatMap (encI .i32)))]⟩) (c := room ([x0.Minus_] : List Int).length) (tr2 := []) (H2 := [.box (encSt22 x0), .box (encSt25 x1), vecL (encI .i32) 1 21 ([x0.Minus_] : List Int), vecL (encI .i32) 1 21 ([x0.Minus_] : List Int)]) (by kernel_rfl) hm (fun hc => rfl) (by kernel_rfl) ?_
   refine kC 1 [2,3,4,6,7] ?_
   refine kEN ?_
   refine kR ?_
   refine kC 3 [2,3,4,6,7] ?_
   refine kE ?_
   refine PJ.blockNormal ?_
   obtain rfl := oi h17
   refine PJ.wk (Wk.sel (L2 := [(2, .int .i64 (IntKind.wrap .i64 (0 - x2))), (3, .ptr 0 0), (4, .ptr 1 0), (6, .nl), (7, .vc 2)]) (H2 := [.box (encSt22 x0), .box (encSt25 x1), vecL (encI .i32) 1 21 ([x0.Minus_] : List Int)]) 0 (by rw [hFH]; rfl) hFD [0, 1, 3] (by kernel_rfl) (by kernel_rfl) (by decide) (by kernel_rfl) (by kernel_rfl) (by kernel_rfl) (by kernel_rfl)) ?_
   exact kN [2, 3, 4, 6, 7]
  ·have h16 := condF hb14 hy11
   refine kF ?_
   refine kSR ?_
   refine RJ.seg 3 [2, 3, 4, 6, 7, 18] (L2 := [(2, .int .i64 x2), (3, .ptr 0 0), (4, .ptr 1 0), (6, .nl), (7, .nl), (18, .bool x1.ExpPlus_)]) (H2 := [.box (encSt22 x0), .box (encSt25 x1)]) (by kernel_rfl) ?_
   refine kEN ?_
   refine J.caseB 18 (b := x1.ExpPlus_) (by kernel_rfl) (fun hb18 => ?_) (fun hb18 => ?_)
   ·have h19 := condT hb18 h16
    refine kT ?_
    refine kR ?_
    refine kC 4 [2,3,4,6,7,21,24] ?_
    obtain ⟨hm, h21⟩ := asrt h19
    refine RJ.rel (d := (some 25)) (ef := ⟨.vc 3, [2], [(3, .vec ([x0.Plus_] : List Int).length 1 21 (([x0.Plus_] : List Int).flatMap (encI .i32)))]⟩) (ef' := ⟨.vc 3, [2], [(3, .vec ([x0.Plus_] : List Int).length 1 21 (([x0.Plus_] : List Int).flatMap (encI .i32)))]⟩) (c := room ([x0.Plus_] : List Int).length) (tr2 := []) (H2 := [.box (encSt22 x0), .box (encSt25 x1), vecL (encI .i32) 1 21 ([x0.Plus_] : List Int), vecL (encI .i32) 1 21 ([x0.Plus_] : List Int)]) (by kernel_rfl) hm (fun hc => rfl) (by kernel_rfl) ?_
    refine kC 1 [2,3,4,6,7] ?_
    refine kE ?_
    refine PJ.blockNormal ?_
    obtain rfl := oi h21
    refine PJ.wk (Wk.sel (L2 := [(2, .int .i64 x2), (3, .ptr 0 0), (4, .ptr 1 0), (6, .nl), (7, .vc 2)]) (H2 := [.box (encSt22 x0), .box (encSt25 x1), vecL (encI .i32) 1 21 ([x0.Plus_] : List Int)]) 0 (by rw [hFH]; rfl) hFD [0, 1, 3] (by kernel_rfl) (by kernel_rfl) (by decide) (by kernel_rfl) (by kernel_rfl) (by kernel_rfl) (by kernel_rfl)) ?_
    exact kN [2, 3, 4, 6, 7]
   ·have h20 := condF hb18 h16
    refine kF ?_
    refine kK ?_
    refine PJ.blockNormal ?_
    obtain rfl := oi h20
    refine PJ.wk (Wk.viv 7 1 21 (by kernel_rfl)) ?_
    exact kN [2, 3, 4, 6, 7]
 ·refine kS ?_
  refine J.keep [2, 3, 4, 6, 7] (L2 := [(2, .int .i64 s9.1), (3, .ptr 0 0), (4, .ptr 1 0), (6, .nl), (7, .vc 2)]) (by kernel_rfl) ?_
  refine K.draw (by kernel_rfl) (by kernel_rfl) (by kernel_rfl) (H2 := [.box (encSt22 x0), .box (encSt25 x1), vecL (encI .i32) 1 21 s9.2, .res, .res, .res, .res]) (by kernel_rfl) (n := 3) (by kernel_rfl) ?_
  refine kD 5 ?_
  obtain ⟨y22, hy23, h24⟩ := bindS h13
  refine RJ.call0 (d := (some 31)) (f := 28) (args := [.int .i64 x1.Exp_]) (v := .int .i64 y22) (tr2 := [([], []), ([0, 1], []), ([], []), ([], []), ([2, 3], []), ([], [6, 7])]) (by kernel_rfl) (by kernel_rfl) (.cons (Le.refl _) .nil) (shape_count_ok hy23) (by kernel_rfl) ?_
  obtain ⟨y25, hy26, h27⟩ := bindS h24
  refine RJ.call0 (d := (some 32)) (f := 73) (args := [.int .i64 s9.1, .int .i64 y22]) (v := lsv (encI .u8) 1 y25) (tr2 := [([], []), ([0, 1], []), ([], []), ([], []), ([2, 3], []), ([], [6, 7]), ([], [8, 9])]) (by kernel_rfl) (by kernel_rfl) (.cons (Le.refl _) (.cons (Le.refl _) .nil)) (SC.frozen (shape_spell_ok_o big hy26)) (by kernel_rfl) ?_
  obtain ⟨y28, hy29, h30⟩ := bindS h27
  refine RJ.call0 (d := (some 33)) (f := 41) (args := [.agg (encSt22 x0), lsv (encI .u8) 1 y25]) (v := lsv (encI .i32) 1 y28) (tr2 := [([], []), ([0, 1], []), ([], []), ([], []), ([2, 3], []), ([], [6, 7]), ([], [8, 9]), ([], [10, 11])]) (by kernel_rfl) (by kernel_rfl) (.cons (Le.refl _) (.cons (Le.refl _) .nil)) (sym_Digits_ok hy29) (by kernel_rfl) ?_
  obtain ⟨hm, h31⟩ := asrt h30
  refine RJ.rel (d := (some 34)) (ef := ⟨.vc 6, [2], [(2, .gone), (6, .vec (s9.2.length + y28.length) 1 21 (s9.2.flatMap (encI .i32) ++ y28.flatMap (encI .i32)))]⟩) (ef' := ⟨.vc 6, [2], [(2, .gone), (6, vecL (encI .i32) 1 21 (s9.2 ++ y28))]⟩) (c := room (s9.2.length + y28.length)) (tr2 := [([], []), ([0, 1], []), ([], []), ([], []), ([2, 3], []), ([], [6, 7]), ([], [8, 9]), ([], [10, 11]), ([4, 5], [4, 5, 12, 13, 12, 13])]) (H2 := [.box (encSt22 x0), .box (encSt25 x1), .gone, .res, .res, .res, vecL (encI .i32) 1 21 (s9.2 ++ y28)]) (by kernel_rfl) hm (fun hc => N.app) (by kernel_rfl) ?_
  refine kD 1 ?_
  refine kEN ?_
  refine kX ?_
  obtain rfl := oi h31
  refine PJ.wk (Wk.freeze 6 (n := (s9.2 ++ y28).length) (k := 1) (e := 21) (cs := (s9.2 ++ y28).flatMap (encI .i32)) (by kernel_rfl)) ?_
  exact kZ hFn hFH hFD

def shape_Write (x0 : St22) (x1 : St25) (x2 : Int) (x3 : St28) : Option (List Int) :=
 (Option.bind (shape_Figures x1 x2 x3) fun y1 => (Option.bind (sym_Grouped x0 y1.1 x1.G1_ x1.G2_) fun y4 => (Option.bind (bif (decide ((y1.2.1.length : Int) > 0)) then (bif room (y4.length + ([x0.Dec_] : List Int).length) then (Option.bind (sym_Digits x0 y1.2.1) fun y24 => (bif room ((y4 ++ ([x0.Dec_] : List Int)).length + y24.length) then (some (((y4 ++ ([x0.Dec_] : List Int)) ++ y24))) else none)) else none) else (some y4)) fun (s15 : (List Int)) => (Option.bind (bif (decide (x1.Exp_ > 0)) then (bif room (s15.length + ([x0.Exp_] : List Int).length) then (Option.bind (shape_exponent x0 x1 y1.2.2) fun y45 => (bif room ((s15 ++ ([x0.Exp_] : List Int)).length + y45.length) then (some (((s15 ++ ([x0.Exp_] : List Int)) ++ y45))) else none)) else none) else (some s15)) fun (s36 : (List Int)) => (some s36)))))
theorem shape_Write_ok {x0 : St22} {x1 : St25} {x2 : Int} {x3 : St28} {r : List Int} (h : shape_Write x0 x1 x2 x3 = some r) : SC Tryz.prog 16 [.agg (encSt22 x0), .agg (encSt25 x1), .int .i64 x2, .agg (encSt28 x3)] [] (lsv (encI .i32) 1 r) [] := by
 refine kFn (fn := Tryz.f16) (fun F hFn hFH hFD => ?_)
 unfold shape_Write at h
 refine kSR ?_
 refine kC 4 [2,4,5,7,8] ?_
 refine kEN ?_
 refine kSR ?_
 refine kC 3 [4,5,8,14,15,16] ?_
 obtain ⟨y1, hy2, h3⟩ := bindS h
 refine RJ.call0 (d := (some 17)) (f := 11) (args := [.agg (encSt25 x1), .int .i64 x2, .agg (encSt28 x3)]) (v := .tup [lsv (encI .u8) 1 y1.1, lsv (encI .u8) 1 y1.2.1, .int .i64 y1.2.2]) (tr2 := []) (by kernel_rfl) (by kernel_rfl) (.cons (Le.refl _) (.cons (Le.refl _) (.cons (Le.refl _) .nil))) (shape_Figures_ok hy2) (by kernel_rfl) ?_
 refine kC 7 [4,5,8,9,10,11] ?_
 refine kEN ?_
 refine kSR ?_
 refine RJ.seg 6 [4, 5, 8, 10, 11, 21, 22, 24, 26] (L2 := [(4, .ptr 0 0), (5, .ptr 1 0), (8, .nl), (10, lsv (encI .u8) 1 y1.2.1), (11, .int .i64 y1.2.2), (21, .agg (encSt22 x0)), (22, lsv (encI .u8) 1 y1.1), (24, .int .i64 x1.G1_), (26, .int .i64 x1.G2_)]) (H2 := [.box (encSt22 x0), .box (encSt25 x1), .box (encSt28 x3)]) (by kernel_rfl) ?_
 obtain ⟨y4, hy5, h6⟩ := bindS h3
 refine RJ.callG (d := (some 27)) (f := 40) (args := [.agg (encSt22 x0), lsv (encI .u8) 1 y1.1, .int .i64 x1.G1_, .int .i64 x1.G2_]) (args0 := [.agg (encSt22 x0), lsv (encI .u8) 1 y1.1, .int .i64 x1.G1_, .int .i64 x1.G2_]) (v0 := .vc 0) (v := .vc 3) (tr2 := []) (H0 := []) (H0' := [vecL (encI .i32) 1 21 y4]) (H2 := [.box (encSt22 x0), .box (encSt25 x1), .box (encSt28 x3), vecL (encI .i32) 1 21 y4]) [] (by kernel_rfl) (by kernel_rfl) (by kernel_rfl) (by kernel_rfl) (by decide) (by kernel_rfl) (by kernel_rfl) (by kernel_rfl) (.cons (Le.refl _) (.cons (Le.refl _) (.cons (Le.refl _) (.cons (Le.refl _) .nil)))) (sym_Grouped_ok_o hy5) (by kernel_rfl) (by kernel_rfl) (by kernel_rfl) ?_
 refine kC 1 [4,5,8,10,11,12] ?_
 refine kEN ?_
 obtain ⟨s15, hy17, h19⟩ := bindS h6
 refine K.cutN (by kernel_rfl) (fun (s15 : (List Int)) => ([(4, .ptr 0 0), (5, .ptr 1 0), (8, .nl), (11, .int .i64 y1.2.2), (12, .vc 2)], [.box (encSt22 x0), .box (encSt25 x1), vecL (encI .i32) 1 21 s15])) s15 ?_ ?_
 ·refine kSR ?_
  refine kC 3 [4,5,8,10,11,12,30] ?_
  refine kEN ?_
  refine J.caseB 30 (b := (decide ((y1.2.1.length : Int) > 0))) (by kernel_rfl) (fun hb20 => ?_) (fun hb20 => ?_)
  ·have h21 := condT hb20 hy17
   refine kT ?_
   refine kSR ?_
   refine kC 4 [4,5,8,10,11,12,31,34] ?_
   obtain ⟨hm, h23⟩ := asrt h21
   refine RJ.rel (d := (some 35)) (ef := ⟨.vc 5, [3, 4], [(3, .gone), (5, .vec (y4.length + ([x0.Dec_] : List Int).length) 1 21 (y4.flatMap (encI .i32) ++ ([x0.Dec_] : List Int).flatMap (encI .i32)))]⟩) (ef' := ⟨.vc 5, [3, 4], [(3, .gone), (5, vecL (encI .i32) 1 21 (y4 ++ ([x0.Dec_] : List Int)))]⟩) (c := room (y4.length + ([x0.Dec_] : List Int).length)) (tr2 := []) (H2 := [.box (encSt22 x0), .box (encSt25 x1), .box (encSt28 x3), .gone, vecL (encI .i32) 1 21 ([x0.Dec_] : List Int), vecL (encI .i32) 1 21 (y4 ++ ([x0.Dec_] : List Int))]) (by kernel_rfl) hm (fun hc => N.app) (by kernel_rfl) ?_
   refine RJ.seg 1 [4, 5, 8, 10, 11, 12] (L2 := [(4, .ptr 0 0), (5, .ptr 1 0), (8, .nl), (10, lsv (encI .u8) 1 y1.2.1), (11, .int .i64 y1.2.2), (12, .vc 5)]) (H2 := [.box (encSt22 x0), .box (encSt25 x1), .box (encSt28 x3), .gone, vecL (encI .i32) 1 21 ([x0.Dec_] : List Int), vecL (encI .i32) 1 21 (y4 ++ ([x0.Dec_] : List Int))]) (by kernel_rfl) ?_
   refine kEN ?_
   refine kR ?_
   refine kC 3 [4,5,8,11,12,36,37,38] ?_
   obtain ⟨y24, hy25, h26⟩ := bindS h23
   refine RJ.call0 (d := (some 39)) (f := 41) (args := [.agg (encSt22 x0), lsv (encI .u8) 1 y1.2.1]) (v := lsv (encI .i32) 1 y24) (tr2 := []) (by kernel_rfl) (by kernel_rfl) (.cons (Le.refl _) (.cons (Le.refl _) .nil)) (sym_Digits_ok hy25) (by kernel_rfl) ?_
   obtain ⟨hm, h27⟩ := asrt h26
   refine RJ.rel (d := (some 40)) (ef := ⟨.vc 6, [5], [(5, .gone), (6, .vec ((y4 ++ ([x0.Dec_] : List Int)).length + y24.length) 1 21 ((y4 ++ ([x0.Dec_] : List Int)).flatMap (encI .i32) ++ y24.flatMap (encI .i32)))]⟩) (ef' := ⟨.vc 6, [5], [(5, .gone), (6, vecL (encI .i32) 1 21 ((y4 ++ ([x0.Dec_] : List Int)) ++ y24))]⟩) (c := room ((y4 ++ ([x0.Dec_] : List Int)).length + y24.length)) (tr2 := []) (H2 := [.box (encSt22 x0), .box (encSt25 x1), .box (encSt28 x3), .gone, vecL (encI .i32) 1 21 ([x0.Dec_] : List Int), .gone, vecL (encI .i32) 1 21 (((y4 ++ ([x0.Dec_] : List Int)) ++ y24))]) (by kernel_rfl) hm (fun hc => N.app) (by kernel_rfl) ?_
   refine kC 1 [4,5,8,11,12] ?_
   refine kE ?_
   obtain rfl := oi h27
   refine PJ.wk (Wk.sel (L2 := [(4, .ptr 0 0), (5, .ptr 1 0), (8, .nl), (11, .int .i64 y1.2.2), (12, .vc 2)]) (H2 := [.box (encSt22 x0), .box (encSt25 x1), vecL (encI .i32) 1 21 (((y4 ++ ([x0.Dec_] : List Int)) ++ y24))]) 0 (by rw [hFH]; rfl) hFD [0, 1, 6] (by kernel_rfl) (by kernel_rfl) (by decide) (by kernel_rfl) (by kernel_rfl) (by kernel_rfl) (by kernel_rfl)) ?_
   exact kN [4, 5, 8, 11, 12]
  ·have h22 := condF hb20 hy17
   refine kF ?_
   refine kK ?_
   obtain rfl := oi h22
   refine PJ.wk (Wk.sel (L2 := [(4, .ptr 0 0), (5, .ptr 1 0), (8, .nl), (11, .int .i64 y1.2.2), (12, .vc 2)]) (H2 := [.box (encSt22 x0), .box (encSt25 x1), vecL (encI .i32) 1 21 y4]) 0 (by rw [hFH]; rfl) hFD [0, 1, 3] (by kernel_rfl) (by kernel_rfl) (by decide) (by kernel_rfl) (by kernel_rfl) (by kernel_rfl) (by kernel_rfl)) ?_
   exact kN [4, 5, 8, 11, 12]
 ·obtain ⟨s36, hy38, h40⟩ := bindS h19
  refine K.cutN (by kernel_rfl) (fun (s36 : (List Int)) => ([(8, .nl), (12, .vc 0)], [vecL (encI .i32) 1 21 s36])) s36 ?_ ?_
  ·refine kSR ?_
   refine kC 3 [4,5,8,11,12,43] ?_
   refine kEN ?_
   refine J.caseB 43 (b := (decide (x1.Exp_ > 0))) (by kernel_rfl) (fun hb41 => ?_) (fun hb41 => ?_)
   ·have h42 := condT hb41 hy38
    refine kT ?_
    refine kSR ?_
    refine kC 4 [4,5,8,11,12,44,47] ?_
    obtain ⟨hm, h44⟩ := asrt h42
    refine RJ.rel (d := (some 48)) (ef := ⟨.vc 4, [2, 3], [(2, .gone), (4, .vec (s15.length + ([x0.Exp_] : List Int).length) 1 21 (s15.flatMap (encI .i32) ++ ([x0.Exp_] : List Int).flatMap (encI .i32)))]⟩) (ef' := ⟨.vc 4, [2, 3], [(2, .gone), (4, vecL (encI .i32) 1 21 (s15 ++ ([x0.Exp_] : List Int)))]⟩) (c := room (s15.length + ([x0.Exp_] : List Int).length)) (tr2 := []) (H2 := [.box (encSt22 x0), .box (encSt25 x1), .gone, vecL (encI .i32) 1 21 ([x0.Exp_] : List Int), vecL (encI .i32) 1 21 (s15 ++ ([x0.Exp_] : List Int))]) (by kernel_rfl) hm (fun hc => N.app) (by kernel_rfl) ?_
    refine kC 1 [4,5,8,11,12] ?_
    refine kEN ?_
    refine kR ?_
    refine RJ.seg 4 [8, 12, 49, 50, 51, 52] (L2 := [(8, .nl), (12, .vc 4), (49, .vc 4), (50, .agg (encSt22 x0)), (51, .agg (encSt25 x1)), (52, .int .i64 y1.2.2)]) (H2 := [.box (encSt22 x0), .box (encSt25 x1), .gone, vecL (encI .i32) 1 21 ([x0.Exp_] : List Int), vecL (encI .i32) 1 21 (s15 ++ ([x0.Exp_] : List Int))]) (by kernel_rfl) ?_
    obtain ⟨y45, hy46, h47⟩ := bindS h44
    refine RJ.call0 (d := (some 53)) (f := 42) (args := [.agg (encSt22 x0), .agg (encSt25 x1), .int .i64 y1.2.2]) (v := lsv (encI .i32) 1 y45) (tr2 := []) (by kernel_rfl) (by kernel_rfl) (.cons (Le.refl _) (.cons (Le.refl _) (.cons (Le.refl _) .nil))) (shape_exponent_ok hy46) (by kernel_rfl) ?_
    obtain ⟨hm, h48⟩ := asrt h47
    refine RJ.rel (d := (some 54)) (ef := ⟨.vc 5, [4], [(4, .gone), (5, .vec ((s15 ++ ([x0.Exp_] : List Int)).length + y45.length) 1 21 ((s15 ++ ([x0.Exp_] : List Int)).flatMap (encI .i32) ++ y45.flatMap (encI .i32)))]⟩) (ef' := ⟨.vc 5, [4], [(4, .gone), (5, vecL (encI .i32) 1 21 ((s15 ++ ([x0.Exp_] : List Int)) ++ y45))]⟩) (c := room ((s15 ++ ([x0.Exp_] : List Int)).length + y45.length)) (tr2 := []) (H2 := [.box (encSt22 x0), .box (encSt25 x1), .gone, vecL (encI .i32) 1 21 ([x0.Exp_] : List Int), .gone, vecL (encI .i32) 1 21 (((s15 ++ ([x0.Exp_] : List Int)) ++ y45))]) (by kernel_rfl) hm (fun hc => N.app) (by kernel_rfl) ?_
    refine kC 1 [8,12] ?_
    refine kE ?_
    obtain rfl := oi h48
    refine PJ.wk (Wk.sel (L2 := [(8, .nl), (12, .vc 0)]) (H2 := [vecL (encI .i32) 1 21 (((s15 ++ ([x0.Exp_] : List Int)) ++ y45))]) 0 (by rw [hFH]; rfl) hFD [5] (by kernel_rfl) (by kernel_rfl) (by decide) (by kernel_rfl) (by kernel_rfl) (by kernel_rfl) (by kernel_rfl)) ?_
    exact kN [8, 12]
   ·have h43 := condF hb41 hy38
    refine kF ?_
    refine kK ?_
    obtain rfl := oi h43
    refine PJ.wk (Wk.sel (L2 := [(8, .nl), (12, .vc 0)]) (H2 := [vecL (encI .i32) 1 21 s15]) 0 (by rw [hFH]; rfl) hFD [2] (by kernel_rfl) (by kernel_rfl) (by decide) (by kernel_rfl) (by kernel_rfl) (by kernel_rfl) (by kernel_rfl)) ?_
    exact kN [8, 12]
  ·refine kSR ?_
   refine kC 2 [8] ?_
   refine kEN ?_
   refine kX ?_
   obtain rfl := oi h40
   refine PJ.wk (Wk.freeze 0 (n := s36.length) (k := 1) (e := 21) (cs := s36.flatMap (encI .i32)) (by kernel_rfl)) ?_
   exact kZ hFn hFH hFD

def slices_Index (x0 : List Int) (x1 : Int) : Option (Int) :=
 (Option.bind (loopN (fun (s45 : Int) => (bif (decide (s45 < (x0.length : Int))) then (bif inR s45 x0.length then (bif (decide (x1 = (nth x0 s45))) then (some (.inr (.inr s45))) else (some (.inl (IntKind.wrap .i64 (s45 + 1))))) else none) else (some (.inr (.inl ()))))) big 0) (joinX fun (s40 : Unit) => (some (-1))))
theorem slices_Index_ok {x0 : List Int} {x1 : Int} {r : Int} (h : slices_Index x0 x1 = some r) : SC Tryz.prog 74 [lsv (encI .i32) 1 x0, .int .i32 x1] [] (.int .i64 r) [] := by
 refine kFn (fn := Tryz.f74) (fun F hFn hFH hFD => ?_)
 unfold slices_Index at h
 refine kSR ?_
 refine kC 1 [0,1,4] ?_
 refine kEN ?_
 obtain ⟨y41, hy42, h43⟩ := bindS h
 refine K.cutX (by kernel_rfl) (fun (s40 : Unit) => ([(4, .int .i64 0)], [])) y41 ?_ (fun s40 hs => ?_)
 ·refine kSR ?_
  refine kC 3 [0,1,4,7,8] ?_
  refine kEN ?_
  refine K.block 0 (by kernel_rfl) ?_
  refine K.loop (by kernel_rfl) (fun (s45 : Int) => ([(0, lsv (encI .i32) 1 x0), (1, .int .i32 x1), (4, .int .i64 0), (7, .int .i64 (x0.length : Int)), (8, .int .i64 s45)], [])) hy42 [0, 1, 4, 7, 8] (by kernel_rfl) (by kernel_rfl) (fun s45 x71 hs70 => ?_)
  refine kSR ?_
  refine kC 1 [0,1,4,7,8,9] ?_
  refine kEN ?_
  refine kS ?_
  refine J.caseB 9 (b := (decide (s45 < (x0.length : Int)))) (by kernel_rfl) (fun hb72 => ?_) (fun hb72 => ?_)
  ·have h73 := condT hb72 hs70
   refine kT ?_
   refine kK ?_
   refine PJ.next ?_
   refine kS ?_
   refine K.block 1 (by kernel_rfl) ?_
   refine kSR ?_
   refine kC 2 [0,1,4,5,7,8] ?_
   refine kEN ?_
   refine kSR ?_
   refine kC 3 [0,1,4,5,7,8,11,12,13] ?_
   obtain ⟨hm, h75⟩ := asrt h73
   refine RJ.rel (d := (some 14)) (ef := ⟨.ep (((x0.flatMap (encI .i32)).drop ((s45 : Int).toNat * 1)).take 1), [], []⟩) (ef' := ⟨.ep ((encI .i32) (nth x0 s45)), [], []⟩) (c := inR s45 x0.length) (tr2 := []) (H2 := []) (by kernel_rfl) hm (fun hc => N.idx (encI_len .i32) hc) (by kernel_rfl) ?_
   refine RJ.seg 2 [0, 1, 4, 5, 7, 8, 16] (L2 := [(0, lsv (encI .i32) 1 x0), (1, .int .i32 x1), (4, .int .i64 0), (5, .int .i64 s45), (7, .int .i64 (x0.length : Int)), (8, .int .i64 s45), (16, .bool ((decide (x1 = (nth x0 s45)))))]) (H2 := []) (by kernel_rfl) ?_
   refine kEN ?_
   refine J.caseB 16 (b := (decide (x1 = (nth x0 s45)))) (by kernel_rfl) (fun hb76 => ?_) (fun hb76 => ?_)
   ·have h77 := condT hb76 h75
    refine kT ?_
    refine kSR ?_
    refine kC 2 [0,1,4,7,8] ?_
    refine kEN ?_
    refine kX ?_
    refine PJ.blockRet ?_
    refine PJ.passRet ?_
    obtain rfl := oi h77
    refine PJ.loopOut (fun e => nomatch e) (fun he81 => ?_)
    have h79 := congrArg some he81
    refine PJ.blockRet ?_
    obtain rfl := oi h79
    have h80 := joinX_inr h43
    refine PJ.cutXr (fun e => nomatch e) ?_
    obtain rfl := oi h80
    exact kZ hFn hFH hFD
   ·have h78 := condF hb76 h75
    refine kF ?_
    refine kK ?_
    refine PJ.blockNormal ?_
    refine PJ.next ?_
    refine kR ?_
    refine kC 2 [0,1,4,7,8] ?_
    refine kE ?_
    obtain rfl := oi h78
    exact PJ.loopNext [0, 1, 4, 7, 8] (by kernel_rfl) (by kernel_rfl)
  ·have h74 := condF hb72 hs70
   refine kF ?_
   refine K.exit 0 (by kernel_rfl) ?_
   refine PJ.passExit ?_
   obtain rfl := oi h74
   refine PJ.loopOut (fun e => nomatch e) (fun he83 => ?_)
   have h82 := congrArg some he83
   refine PJ.blockOut ?_
   obtain rfl := oi h82
   exact PJ.cutXl [4] (by kernel_rfl) (by kernel_rfl)
 ·subst hs
  have h44 := joinX_inl h43
  refine kSR ?_
  refine kC 1 [4] ?_
  refine kEN ?_
  refine kX ?_
  obtain rfl := oi h44
  exact kZ hFn hFH hFD

def sym_Value (x0 : St22) (x1 : Int) : Option (Int × Bool) :=
 (Option.bind (Option.bind (bif (decide (((IntKind.wrap .i64 ((IntKind.wrap .i64 x1) - (IntKind.wrap .i64 x0.Zero_)))) < 0)) then (some true) else (some ((decide (((IntKind.wrap .i64 ((IntKind.wrap .i64 x1) - (IntKind.wrap .i64 x0.Zero_)))) > 9))))) fun (s24 : Bool) => (bif s24 then (some (.inr (0, false))) else (some (.inl ())))) (joinX fun (s16 : Unit) => (some ((IntKind.wrap .u8 ((IntKind.wrap .i64 ((IntKind.wrap .i64 x1) - (IntKind.wrap .i64 x0.Zero_))))), true))))
theorem sym_Value_ok {x0 : St22} {x1 : Int} {r : Int × Bool} (h : sym_Value x0 x1 = some r) : SC Tryz.prog 77 [.agg (encSt22 x0), .int .i32 x1] [] (.tup [.int .u8 r.1, .bool r.2]) [] := by
 refine kFn (fn := Tryz.f77) (fun F hFn hFH hFD => ?_)
 unfold sym_Value at h
 refine kSR ?_
 refine kC 3 [1,2,4,5] ?_
 refine kEN ?_
 refine kSR ?_
 refine kC 7 [4,5,6] ?_
 refine kEN ?_
 obtain ⟨y17, hy18, h19⟩ := bindS h
 refine K.cutX (by kernel_rfl) (fun (s16 : Unit) => ([(4, .int .u8 0), (5, .bool false), (6, .int .i64 ((IntKind.wrap .i64 ((IntKind.wrap .i64 x1) - (IntKind.wrap .i64 x0.Zero_)))))], [])) y17 ?_ (fun s16 hs => ?_)
 ·obtain ⟨s24, hy26, h28⟩ := bindS hy18
  refine K.cutN (by kernel_rfl) (fun (s24 : Bool) => ([(4, .int .u8 0), (5, .bool false), (6, .int .i64 ((IntKind.wrap .i64 ((IntKind.wrap .i64 x1) - (IntKind.wrap .i64 x0.Zero_))))), (18, .bool s24)], [])) s24 ?_ ?_
  ·refine kR ?_
   refine kC 3 [4,5,6,15] ?_
   refine RJ.caseB 15 (b := (decide (((IntKind.wrap .i64 ((IntKind.wrap .i64 x1) - (IntKind.wrap .i64 x0.Zero_)))) < 0))) (by kernel_rfl) (fun hb29 => ?_) (fun hb29 => ?_)
   ·have h30 := condT hb29 hy26
    refine RJ.seg 3 [4, 5, 6, 18] (L2 := [(4, .int .u8 0), (5, .bool false), (6, .int .i64 ((IntKind.wrap .i64 ((IntKind.wrap .i64 x1) - (IntKind.wrap .i64 x0.Zero_))))), (18, .bool true)]) (H2 := [.box (encSt22 x0)]) (by kernel_rfl) ?_
    refine kE ?_
    obtain rfl := oi h30
    refine PJ.wk (Wk.sel (L2 := [(4, .int .u8 0), (5, .bool false), (6, .int .i64 ((IntKind.wrap .i64 ((IntKind.wrap .i64 x1) - (IntKind.wrap .i64 x0.Zero_))))), (18, .bool true)]) (H2 := []) 0 (by rw [hFH]; rfl) hFD [] (by kernel_rfl) (by kernel_rfl) (by decide) (by kernel_rfl) (by kernel_rfl) (by kernel_rfl) (by kernel_rfl)) ?_
    exact kN [4, 5, 6, 18]
   ·have h31 := condF hb29 hy26
    refine RJ.seg 3 [4, 5, 6, 18] (L2 := [(4, .int .u8 0), (5, .bool false), (6, .int .i64 ((IntKind.wrap .i64 ((IntKind.wrap .i64 x1) - (IntKind.wrap .i64 x0.Zero_))))), (18, .bool ((decide (((IntKind.wrap .i64 ((IntKind.wrap .i64 x1) - (IntKind.wrap .i64 x0.Zero_)))) > 9))))]) (H2 := [.box (encSt22 x0)]) (by kernel_rfl) ?_
    refine kE ?_
    obtain rfl := oi h31
    refine PJ.wk (Wk.sel (L2 := [(4, .int .u8 0), (5, .bool false), (6, .int .i64 ((IntKind.wrap .i64 ((IntKind.wrap .i64 x1) - (IntKind.wrap .i64 x0.Zero_))))), (18, .bool ((decide (((IntKind.wrap .i64 ((IntKind.wrap .i64 x1) - (IntKind.wrap .i64 x0.Zero_)))) > 9))))]) (H2 := []) 0 (by rw [hFH]; rfl) hFD [] (by kernel_rfl) (by kernel_rfl) (by decide) (by kernel_rfl) (by kernel_rfl) (by kernel_rfl) (by kernel_rfl)) ?_
    exact kN [4, 5, 6, 18]
  ·refine J.caseB 18 (b := s24) (by kernel_rfl) (fun hb32 => ?_) (fun hb32 => ?_)
   ·have h33 := condT hb32 h28
    refine kT ?_
    refine kSR ?_
    refine kC 2 [4,5,6] ?_
    refine kEN ?_
    refine kX ?_
    obtain rfl := oi h33
    have h35 := joinX_inr h19
    refine PJ.cutXr (fun e => nomatch e) ?_
    obtain rfl := oi h35
    exact kZ hFn hFH hFD
   ·have h34 := condF hb32 h28
    refine kF ?_
    refine kK ?_
    obtain rfl := oi h34
    exact PJ.cutXl [4, 5, 6] (by kernel_rfl) (by kernel_rfl)
 ·subst hs
  have h20 := joinX_inl h19
  refine kSR ?_
  refine kC 4 [4,5] ?_
  refine kEN ?_
  refine kX ?_
  obtain rfl := oi h20
  exact kZ hFn hFH hFD

def shape_figures (x0 : St22) (x1 : List Int) : Option ((List Int) × Bool) :=
 (Option.bind (loopN (fun (s57 : Int × (List Int)) => (bif (decide (s57.1 < (x1.length : Int))) then (bif inR s57.1 x1.length then (Option.bind (sym_Value x0 (nth x1 s57.1)) fun y96 => (bif (!y96.2) then (some (.inr (.inr (([] : List Int), false)))) else (bif room (s57.2.length + ([y96.1] : List Int).length) then (some (.inl ((IntKind.wrap .i64 (s57.1 + 1)), (s57.2 ++ ([y96.1] : List Int))))) else none))) else none) else (some (.inr (.inl s57.2))))) big (0, ([] : List Int))) (joinX fun (s52 : (List Int)) => (some (s52, true))))
theorem shape_figures_ok {x0 : St22} {x1 : List Int} {r : (List Int) × Bool} (h : shape_figures x0 x1 = some r) : SC Tryz.prog 76 [.agg (encSt22 x0), lsv (encI .i32) 1 x1] [] (.tup [lsv (encI .u8) 1 r.1, .bool r.2]) [] := by
 refine kFn (fn := Tryz.f76) (fun F hFn hFH hFD => ?_)
 unfold shape_figures at h
 refine kSR ?_
 refine kC 3 [1,2,4,5] ?_
 refine kEN ?_
 refine kSR ?_
 refine kC 1 [1,2,4,5,6] ?_
 refine kEN ?_
 obtain ⟨y53, hy54, h55⟩ := bindS h
 refine K.cutX (by kernel_rfl) (fun (s52 : (List Int)) => ([(4, .nl), (5, .bool false), (6, .vc 0)], [vecL (encI .u8) 1 5 s52])) y53 ?_ (fun s52 hs => ?_)
 ·refine kSR ?_
  refine kC 3 [2,4,5,6,11,12,13] ?_
  refine kEN ?_
  refine K.block 0 (by kernel_rfl) ?_
  refine J.wk (Wk.viv 6 1 5 (by kernel_rfl)) ?_
  refine K.loop (by kernel_rfl) (fun (s57 : Int × (List Int)) => ([(2, .ptr 0 0), (4, .nl), (5, .bool false), (6, .vc 1), (11, lsv (encI .i32) 1 x1), (12, .int .i64 (x1.length : Int)), (13, .int .i64 s57.1)], [.box (encSt22 x0), vecL (encI .u8) 1 5 s57.2])) hy54 [2, 4, 5, 6, 11, 12, 13] (by kernel_rfl) (by kernel_rfl) (fun s57 x91 hs90 => ?_)
  refine kSR ?_
  refine kC 1 [2,4,5,6,11,12,13,14] ?_
  refine kEN ?_
  refine kS ?_
  refine J.caseB 14 (b := (decide (s57.1 < (x1.length : Int)))) (by kernel_rfl) (fun hb92 => ?_) (fun hb92 => ?_)
  ·have h93 := condT hb92 hs90
   refine kT ?_
   refine kK ?_
   refine PJ.next ?_
   refine kS ?_
   refine K.block 1 (by kernel_rfl) ?_
   refine kSR ?_
   obtain ⟨hm, h95⟩ := asrt h93
   refine RJ.rel (d := (some 15)) (ef := ⟨.ep (((x1.flatMap (encI .i32)).drop ((s57.1 : Int).toNat * 1)).take 1), [], []⟩) (ef' := ⟨.ep ((encI .i32) (nth x1 s57.1)), [], []⟩) (c := inR s57.1 x1.length) (tr2 := []) (H2 := [.box (encSt22 x0), vecL (encI .u8) 1 5 s57.2]) (by kernel_rfl) hm (fun hc => N.idx (encI_len .i32) hc) (by kernel_rfl) ?_
   refine kC 2 [2,4,5,6,8,11,12,13] ?_
   refine kEN ?_
   refine kSR ?_
   refine kC 2 [2,4,5,6,11,12,13,18,19] ?_
   obtain ⟨y96, hy97, h98⟩ := bindS h95
   refine RJ.call0 (d := (some 20)) (f := 77) (args := [.agg (encSt22 x0), .int .i32 (nth x1 s57.1)]) (v := .tup [.int .u8 y96.1, .bool y96.2]) (tr2 := []) (by kernel_rfl) (by kernel_rfl) (.cons (Le.refl _) (.cons (Le.refl _) .nil)) (sym_Value_ok hy97) (by kernel_rfl) ?_
   refine RJ.seg 5 [2, 4, 5, 6, 9, 10, 11, 12, 13] (L2 := [(2, .ptr 0 0), (4, .nl), (5, .bool false), (6, .vc 1), (9, .int .u8 y96.1), (10, .bool y96.2), (11, lsv (encI .i32) 1 x1), (12, .int .i64 (x1.length : Int)), (13, .int .i64 s57.1)]) (H2 := [.box (encSt22 x0), vecL (encI .u8) 1 5 s57.2]) (by kernel_rfl) ?_
   refine kEN ?_
   refine kS ?_
   refine kSR ?_
   refine kC 2 [2,4,5,6,9,11,12,13,24] ?_
   refine kEN ?_
   refine J.caseB 24 (b := (!y96.2)) (by kernel_rfl) (fun hb99 => ?_) (fun hb99 => ?_)
   ·have h100 := condT hb99 h98
    refine kT ?_
    refine kSR ?_
    refine kC 2 [2,4,5,6,9,11,12,13] ?_
    refine kEN ?_
    refine kX ?_
    refine PJ.passRet ?_
    refine PJ.blockRet ?_
    refine PJ.passRet ?_
    obtain rfl := oi h100
    refine PJ.loopOut (fun e => nomatch e) (fun he104 => ?_)
    have h102 := congrArg some he104
    refine PJ.blockRet ?_
    obtain rfl := oi h102
    have h103 := joinX_inr h55
    refine PJ.cutXr (fun e => nomatch e) ?_
    obtain rfl := oi h103
    refine PJ.res (v1 := .tup [.nl, .bool false]) (Le.tup (.cons (Le.nl _) (.cons (Le.refl _) .nil))) ?_
    exact kZ hFn hFH hFD
   ·have h101 := condF hb99 h98
    refine kF ?_
    refine kK ?_
    refine PJ.next ?_
    refine kR ?_
    refine kC 3 [2,4,5,6,11,12,13,25,27] ?_
    obtain ⟨hm, h105⟩ := asrt h101
    refine RJ.rel (d := (some 28)) (ef := ⟨.vc 3, [1, 2], [(1, .gone), (3, .vec (s57.2.length + ([y96.1] : List Int).length) 1 5 (s57.2.flatMap (encI .u8) ++ ([y96.1] : List Int).flatMap (encI .u8)))]⟩) (ef' := ⟨.vc 3, [1, 2], [(1, .gone), (3, vecL (encI .u8) 1 5 (s57.2 ++ ([y96.1] : List Int)))]⟩) (c := roomB (s57.2.length + ([y96.1] : List Int).length)) (tr2 := []) (H2 := [.box (encSt22 x0), .gone, vecL (encI .u8) 1 5 ([y96.1] : List Int), vecL (encI .u8) 1 5 (s57.2 ++ ([y96.1] : List Int))]) (by kernel_rfl) (roomB_of_room hm) (fun hc => N.app) (by kernel_rfl) ?_
    refine kC 1 [2,4,5,6,11,12,13] ?_
    refine kE ?_
    refine PJ.blockNormal ?_
    refine PJ.next ?_
    refine kR ?_
    refine RJ.seg 2 [2, 4, 5, 6, 11, 12, 13] (L2 := [(2, .ptr 0 0), (4, .nl), (5, .bool false), (6, .vc 3), (11, lsv (encI .i32) 1 x1), (12, .int .i64 (x1.length : Int)), (13, .int .i64 (IntKind.wrap .i64 (s57.1 + 1)))]) (H2 := [.box (encSt22 x0), .gone, vecL (encI .u8) 1 5 ([y96.1] : List Int), vecL (encI .u8) 1 5 (s57.2 ++ ([y96.1] : List Int))]) (by kernel_rfl) ?_
    refine kE ?_
    obtain rfl := oi h105
    refine PJ.wk (Wk.sel (L2 := [(2, .ptr 0 0), (4, .nl), (5, .bool false), (6, .vc 1), (11, lsv (encI .i32) 1 x1), (12, .int .i64 (x1.length : Int)), (13, .int .i64 (IntKind.wrap .i64 (s57.1 + 1)))]) (H2 := [.box (encSt22 x0), vecL (encI .u8) 1 5 (s57.2 ++ ([y96.1] : List Int))]) 0 (by rw [hFH]; rfl) hFD [0, 3] (by kernel_rfl) (by kernel_rfl) (by decide) (by kernel_rfl) (by kernel_rfl) (by kernel_rfl) (by kernel_rfl)) ?_
    exact PJ.loopNext [2, 4, 5, 6, 11, 12, 13] (by kernel_rfl) (by kernel_rfl)
  ·have h94 := condF hb92 hs90
   refine kF ?_
   refine K.exit 0 (by kernel_rfl) ?_
   refine PJ.passExit ?_
   obtain rfl := oi h94
   refine PJ.loopOut (fun e => nomatch e) (fun he107 => ?_)
   have h106 := congrArg some he107
   refine PJ.blockOut ?_
   obtain rfl := oi h106
   refine PJ.wk (Wk.sel (L2 := [(4, .nl), (5, .bool false), (6, .vc 0)]) (H2 := [vecL (encI .u8) 1 5 s57.2]) 0 (by rw [hFH]; rfl) hFD [1] (by kernel_rfl) (by kernel_rfl) (by decide) (by kernel_rfl) (by kernel_rfl) (by kernel_rfl) (by kernel_rfl)) ?_
   exact PJ.cutXl [4, 5, 6] (by kernel_rfl) (by kernel_rfl)
 ·subst hs
  have h56 := joinX_inl h55
  refine kSR ?_
  refine kC 3 [4,5] ?_
  refine kEN ?_
  refine kX ?_
  obtain rfl := oi h56
  refine PJ.wk (Wk.freeze 0 (n := s52.length) (k := 1) (e := 5) (cs := s52.flatMap (encI .u8)) (by kernel_rfl)) ?_
  exact kZ hFn hFH hFD

def shape_readPower (x0 : St22) (x1 : List Int) : Option (Int × Bool) :=
 (Option.bind (Option.bind (bif (decide ((x1.length : Int) > 0)) then (bif inR 0 x1.length then (bif (decide ((nth x1 0) = x0.Minus_)) then (some true) else (bif inR 0 x1.length then (some ((decide ((nth x1 0) = x0.Plus_)))) else none)) else none) else (some false)) fun (s52 : Bool) => (bif s52 then (Option.bind (bif inR 0 x1.length then (bif (decide ((nth x1 0) = x0.Minus_)) then (some (-1)) else (some 1)) else none) fun (s72 : Int) => (bif inS 1 (x1.length : Int) x1.length then (some ((cut x1 1 (x1.length : Int)), s72)) else none)) else (some (x1, 1)))) fun (s39 : (List Int) × Int) => (Option.bind (shape_figures x0 s39.1) fun y82 => (Option.bind (Option.bind (bif (!y82.2) then (some true) else (bif (decide ((y82.1.length : Int) = 0)) then (some true) else (some ((decide ((y82.1.length : Int) > 40)))))) fun (s117 : Bool) => (bif s117 then (some (.inr (0, false))) else (some (.inl ())))) (joinX fun (s106 : Unit) => (Option.bind (loopN (fun (s158 : Int × Int) => (bif (decide (s158.2 < (y82.1.length : Int))) then (bif inR s158.2 y82.1.length then (some (.inl ((minI ((IntKind.wrap .i64 ((IntKind.wrap .i64 (s158.1 * 10)) + (IntKind.wrap .i64 (nth y82.1 s158.2))))) 100001), (IntKind.wrap .i64 (s158.2 + 1))))) else none) else (some (.inr s158.1)))) big (0, 0)) fun (s153 : Int) => (some ((IntKind.wrap .i64 (s39.2 * s153)), (decide (s153 ≤ 100000)))))))))
theorem shape_readPower_ok {x0 : St22} {x1 : List Int} {r : Int × Bool} (h : shape_readPower x0 x1 = some r) : SC Tryz.prog 75 [.agg (encSt22 x0), lsv (encI .i32) 1 x1] [] (.tup [.int .i64 r.1, .bool r.2]) [] := by
 refine kFn (fn := Tryz.f75) (fun F hFn hFH hFD => ?_)
 unfold shape_readPower at h
 refine kSR ?_
 refine kC 3 [1,2,4,5] ?_
 refine kEN ?_
 refine kSR ?_
 refine kC 1 [1,2,4,5,6] ?_
 refine kEN ?_
 obtain ⟨s39, hy41, h43⟩ := bindS h
 refine K.cutN (by kernel_rfl) (fun (s39 : (List Int) × Int) => ([(1, lsv (encI .i32) 1 s39.1), (2, .ptr 0 0), (4, .int .i64 0), (5, .bool false), (6, .int .i64 s39.2)], [.box (encSt22 x0)])) s39 ?_ ?_
 ·obtain ⟨s52, hy54, h56⟩ := bindS hy41
  refine K.cutN (by kernel_rfl) (fun (s52 : Bool) => ([(1, lsv (encI .i32) 1 x1), (2, .ptr 0 0), (4, .int .i64 0), (5, .bool false), (6, .int .i64 1), (30, .bool s52)], [.box (encSt22 x0)])) s52 ?_ ?_
  ·refine J.keep [1, 2, 4, 5, 6] (L2 := [(1, lsv (encI .i32) 1 x1), (2, .ptr 0 0), (4, .int .i64 0), (5, .bool false), (6, .int .i64 1)]) (by kernel_rfl) ?_
   refine K.draw (by kernel_rfl) (by kernel_rfl) (by kernel_rfl) (H2 := [.box (encSt22 x0)]) (by kernel_rfl) (n := 1) (by kernel_rfl) ?_
   refine kD 4 ?_
   refine RJ.caseB 15 (b := (decide ((x1.length : Int) > 0))) (by kernel_rfl) (fun hb57 => ?_) (fun hb57 => ?_)
   ·have h58 := condT hb57 hy54
    refine RJ.segD 1 (tr2 := [([], []), ([], []), ([], []), ([], []), ([], [])]) (L2 := [(16, lsv (encI .i32) 1 x1), (15, .bool true), (15, .bool ((decide ((x1.length : Int) > 0)))), (14, .bool ((decide ((x1.length : Int) > 0)))), (13, .int .i64 (x1.length : Int)), (12, lsv (encI .i32) 1 x1), (1, lsv (encI .i32) 1 x1), (2, .ptr 0 0), (4, .int .i64 0), (5, .bool false), (6, .int .i64 1)]) (H2 := [.box (encSt22 x0)]) (by kernel_rfl) ?_
    obtain ⟨hm, h60⟩ := asrt h58
    refine RJ.rel (d := (some 17)) (ef := ⟨.ep (((x1.flatMap (encI .i32)).drop ((0 : Int).toNat * 1)).take 1), [], []⟩) (ef' := ⟨.ep ((encI .i32) (nth x1 0)), [], []⟩) (c := inR 0 x1.length) (tr2 := [([], []), ([], []), ([], []), ([], []), ([], []), ([], [])]) (H2 := [.box (encSt22 x0)]) (by kernel_rfl) hm (fun hc => N.idx (encI_len .i32) hc) (by kernel_rfl) ?_
    refine kD 5 ?_
    refine RJ.caseB 22 (b := (decide ((nth x1 0) = x0.Minus_))) (by kernel_rfl) (fun hb61 => ?_) (fun hb61 => ?_)
    ·have h62 := condT hb61 h60
     refine kD 8 ?_
     refine kE ?_
     obtain rfl := oi h62
     exact kN [1, 2, 4, 5, 6, 30]
    ·have h63 := condF hb61 h60
     refine kD 1 ?_
     obtain ⟨hm, h64⟩ := asrt h63
     refine RJ.rel (d := (some 24)) (ef := ⟨.ep (((x1.flatMap (encI .i32)).drop ((0 : Int).toNat * 1)).take 1), [], []⟩) (ef' := ⟨.ep ((encI .i32) (nth x1 0)), [], []⟩) (c := inR 0 x1.length) (tr2 := [([], []), ([], []), ([], []), ([], []), ([], []), ([], []), ([], []), ([], []), ([0, 1], []), ([], []), ([], []), ([], []), ([], [])]) (H2 := [.box (encSt22 x0)]) (by kernel_rfl) hm (fun hc => N.idx (encI_len .i32) hc) (by kernel_rfl) ?_
     refine kD 6 ?_
     refine kE ?_
     obtain rfl := oi h64
     exact kN [1, 2, 4, 5, 6, 30]
   ·have h59 := condF hb57 hy54
    refine RJ.segD 15 (tr2 := [([], []), ([], []), ([], []), ([], []), ([], []), ([], []), ([], []), ([], []), ([], []), ([], []), ([], []), ([], []), ([], []), ([], []), ([], []), ([], []), ([], []), ([], []), ([], [])]) (L2 := [(30, .bool false), (29, .tup []), (28, .tup []), (27, .tup []), (26, .tup []), (25, .tup []), (24, .tup []), (23, .tup []), (22, .tup []), (21, .tup []), (20, .tup []), (19, .tup []), (18, .tup []), (17, .tup []), (16, .tup []), (15, .bool false), (15, .bool ((decide ((x1.length : Int) > 0)))), (14, .bool ((decide ((x1.length : Int) > 0)))), (13, .int .i64 (x1.length : Int)), (12, lsv (encI .i32) 1 x1), (1, lsv (encI .i32) 1 x1), (2, .ptr 0 0), (4, .int .i64 0), (5, .bool false), (6, .int .i64 1)]) (H2 := [.box (encSt22 x0)]) (by kernel_rfl) ?_
    refine kE ?_
    obtain rfl := oi h59
    exact kN [1, 2, 4, 5, 6, 30]
  ·refine J.caseB 30 (b := s52) (by kernel_rfl) (fun hb65 => ?_) (fun hb65 => ?_)
   ·have h66 := condT hb65 h56
    refine kT ?_
    obtain ⟨s72, hy74, h76⟩ := bindS h66
    refine K.cutN (by kernel_rfl) (fun (s72 : Int) => ([(1, lsv (encI .i32) 1 x1), (2, .ptr 0 0), (4, .int .i64 0), (5, .bool false), (6, .int .i64 s72)], [.box (encSt22 x0)])) s72 ?_ ?_
    ·refine kS ?_
     refine J.keep [1, 2, 4, 5, 6] (L2 := [(1, lsv (encI .i32) 1 x1), (2, .ptr 0 0), (4, .int .i64 0), (5, .bool false), (6, .int .i64 1)]) (by kernel_rfl) ?_
     refine K.draw (by kernel_rfl) (by kernel_rfl) (by kernel_rfl) (H2 := [.box (encSt22 x0)]) (by kernel_rfl) (n := 1) (by kernel_rfl) ?_
     refine kD 1 ?_
     obtain ⟨hm, h77⟩ := asrt hy74
     refine RJ.rel (d := (some 32)) (ef := ⟨.ep (((x1.flatMap (encI .i32)).drop ((0 : Int).toNat * 1)).take 1), [], []⟩) (ef' := ⟨.ep ((encI .i32) (nth x1 0)), [], []⟩) (c := inR 0 x1.length) (tr2 := [([], []), ([], [])]) (H2 := [.box (encSt22 x0)]) (by kernel_rfl) hm (fun hc => N.idx (encI_len .i32) hc) (by kernel_rfl) ?_
     refine kD 4 ?_
     refine kEN ?_
     refine J.caseB 36 (b := (decide ((nth x1 0) = x0.Minus_))) (by kernel_rfl) (fun hb78 => ?_) (fun hb78 => ?_)
     ·have h79 := condT hb78 h77
      refine kT ?_
      refine kR ?_
      refine kC 1 [1,2,4,5,6] ?_
      refine kE ?_
      obtain rfl := oi h79
      exact kN [1, 2, 4, 5, 6]
     ·have h80 := condF hb78 h77
      refine kF ?_
      refine kK ?_
      obtain rfl := oi h80
      exact kN [1, 2, 4, 5, 6]
    ·refine kR ?_
     refine kC 1 [1,2,4,5,6,37] ?_
     obtain ⟨hm, h81⟩ := asrt h76
     refine RJ.rel (d := (some 38)) (ef := ⟨.lst (((x1.length : Int) : Int).toNat - (1 : Int).toNat) 1 (((x1.flatMap (encI .i32)).take (((x1.length : Int) : Int).toNat * 1)).drop ((1 : Int).toNat * 1)), [], []⟩) (ef' := ⟨.lst (cut x1 1 (x1.length : Int)).length 1 ((cut x1 1 (x1.length : Int)).flatMap (encI .i32)), [], []⟩) (c := inS 1 (x1.length : Int) x1.length) (tr2 := []) (H2 := [.box (encSt22 x0)]) (by kernel_rfl) hm (fun hc => N.slice (encI_len .i32) hc) (by kernel_rfl) ?_
     refine kC 1 [1,2,4,5,6] ?_
     refine kE ?_
     obtain rfl := oi h81
     exact kN [1, 2, 4, 5, 6]
   ·have h67 := condF hb65 h56
    refine kF ?_
    refine kK ?_
    obtain rfl := oi h67
    exact kN [1, 2, 4, 5, 6]
 ·refine kSR ?_
  refine kC 2 [4,5,6,40,41] ?_
  obtain ⟨y82, hy83, h84⟩ := bindS h43
  refine RJ.call0 (d := (some 42)) (f := 76) (args := [.agg (encSt22 x0), lsv (encI .i32) 1 s39.1]) (v := .tup [lsv (encI .u8) 1 y82.1, .bool y82.2]) (tr2 := []) (by kernel_rfl) (by kernel_rfl) (.cons (Le.refl _) (.cons (Le.refl _) .nil)) (shape_figures_ok hy83) (by kernel_rfl) ?_
  refine kC 5 [4,5,6,7,8] ?_
  refine kEN ?_
  obtain ⟨y107, hy108, h109⟩ := bindS h84
  refine K.cutX (by kernel_rfl) (fun (s106 : Unit) => ([(4, .int .i64 0), (5, .bool false), (6, .int .i64 s39.2), (7, lsv (encI .u8) 1 y82.1)], [])) y107 ?_ (fun s106 hs => ?_)
  ·obtain ⟨s117, hy119, h121⟩ := bindS hy108
   refine K.cutN (by kernel_rfl) (fun (s117 : Bool) => ([(4, .int .i64 0), (5, .bool false), (6, .int .i64 s39.2), (7, lsv (encI .u8) 1 y82.1), (56, .bool s117)], [])) s117 ?_ ?_
   ·refine kR ?_
    refine kC 3 [4,5,6,7,47] ?_
    refine RJ.caseB 47 (b := (!y82.2)) (by kernel_rfl) (fun hb122 => ?_) (fun hb122 => ?_)
    ·have h123 := condT hb122 hy119
     refine RJ.seg 9 [4, 5, 6, 7, 56] (L2 := [(4, .int .i64 0), (5, .bool false), (6, .int .i64 s39.2), (7, lsv (encI .u8) 1 y82.1), (56, .bool true)]) (H2 := [.box (encSt22 x0)]) (by kernel_rfl) ?_
     refine kE ?_
     obtain rfl := oi h123
     refine PJ.wk (Wk.sel (L2 := [(4, .int .i64 0), (5, .bool false), (6, .int .i64 s39.2), (7, lsv (encI .u8) 1 y82.1), (56, .bool true)]) (H2 := []) 0 (by rw [hFH]; rfl) hFD [] (by kernel_rfl) (by kernel_rfl) (by decide) (by kernel_rfl) (by kernel_rfl) (by kernel_rfl) (by kernel_rfl)) ?_
     exact kN [4, 5, 6, 7, 56]
    ·have h124 := condF hb122 hy119
     refine RJ.seg 5 [4, 5, 6, 7, 52] (L2 := [(4, .int .i64 0), (5, .bool false), (6, .int .i64 s39.2), (7, lsv (encI .u8) 1 y82.1), (52, .bool ((decide ((y82.1.length : Int) = 0))))]) (H2 := [.box (encSt22 x0)]) (by kernel_rfl) ?_
     refine RJ.caseB 52 (b := (decide ((y82.1.length : Int) = 0))) (by kernel_rfl) (fun hb125 => ?_) (fun hb125 => ?_)
     ·have h126 := condT hb125 h124
      refine kC 4 [4,5,6,7,56] ?_
      refine kE ?_
      obtain rfl := oi h126
      refine PJ.wk (Wk.sel (L2 := [(4, .int .i64 0), (5, .bool false), (6, .int .i64 s39.2), (7, lsv (encI .u8) 1 y82.1), (56, .bool true)]) (H2 := []) 0 (by rw [hFH]; rfl) hFD [] (by kernel_rfl) (by kernel_rfl) (by decide) (by kernel_rfl) (by kernel_rfl) (by kernel_rfl) (by kernel_rfl)) ?_
      exact kN [4, 5, 6, 7, 56]
     ·have h127 := condF hb125 h124
      refine kC 4 [4,5,6,7,56] ?_
      refine kE ?_
      obtain rfl := oi h127
      refine PJ.wk (Wk.sel (L2 := [(4, .int .i64 0), (5, .bool false), (6, .int .i64 s39.2), (7, lsv (encI .u8) 1 y82.1), (56, .bool ((decide ((y82.1.length : Int) > 40))))]) (H2 := []) 0 (by rw [hFH]; rfl) hFD [] (by kernel_rfl) (by kernel_rfl) (by decide) (by kernel_rfl) (by kernel_rfl) (by kernel_rfl) (by kernel_rfl)) ?_
      exact kN [4, 5, 6, 7, 56]
   ·refine J.caseB 56 (b := s117) (by kernel_rfl) (fun hb128 => ?_) (fun hb128 => ?_)
    ·have h129 := condT hb128 h121
     refine kT ?_
     refine kSR ?_
     refine kC 2 [4,5,6,7] ?_
     refine kEN ?_
     refine kX ?_
     obtain rfl := oi h129
     have h131 := joinX_inr h109
     refine PJ.cutXr (fun e => nomatch e) ?_
     obtain rfl := oi h131
     exact kZ hFn hFH hFD
    ·have h130 := condF hb128 h121
     refine kF ?_
     refine kK ?_
     obtain rfl := oi h130
     exact PJ.cutXl [4, 5, 6, 7] (by kernel_rfl) (by kernel_rfl)
  ·subst hs
   have h110 := joinX_inl h109
   refine kSR ?_
   refine kC 1 [4,5,6,7,9] ?_
   refine kEN ?_
   obtain ⟨s153, hy155, h157⟩ := bindS h110
   refine K.cutN (by kernel_rfl) (fun (s153 : Int) => ([(4, .int .i64 0), (5, .bool false), (6, .int .i64 s39.2), (9, .int .i64 s153)], [])) s153 ?_ ?_
   ·refine kSR ?_
    refine kC 3 [4,5,6,9,57,58,59] ?_
    refine kEN ?_
    refine K.block 0 (by kernel_rfl) ?_
    refine K.loop (by kernel_rfl) (fun (s158 : Int × Int) => ([(4, .int .i64 0), (5, .bool false), (6, .int .i64 s39.2), (9, .int .i64 s158.1), (57, lsv (encI .u8) 1 y82.1), (58, .int .i64 (y82.1.length : Int)), (59, .int .i64 s158.2)], [])) hy155 [4, 5, 6, 9, 57, 58, 59] (by kernel_rfl) (by kernel_rfl) (fun s158 x172 hs171 => ?_)
    refine kSR ?_
    refine kC 1 [4,5,6,9,57,58,59,60] ?_
    refine kEN ?_
    refine kS ?_
    refine J.caseB 60 (b := (decide (s158.2 < (y82.1.length : Int)))) (by kernel_rfl) (fun hb173 => ?_) (fun hb173 => ?_)
    ·have h174 := condT hb173 hs171
     refine kT ?_
     refine kK ?_
     refine PJ.next ?_
     refine kS ?_
     refine K.block 1 (by kernel_rfl) ?_
     refine kSR ?_
     obtain ⟨hm, h176⟩ := asrt h174
     refine RJ.rel (d := (some 61)) (ef := ⟨.ep (((y82.1.flatMap (encI .u8)).drop ((s158.2 : Int).toNat * 1)).take 1), [], []⟩) (ef' := ⟨.ep ((encI .u8) (nth y82.1 s158.2)), [], []⟩) (c := inR s158.2 y82.1.length) (tr2 := []) (H2 := []) (by kernel_rfl) hm (fun hc => N.idx (encI_len .u8) hc) (by kernel_rfl) ?_
     refine kC 2 [4,5,6,9,11,57,58,59] ?_
     refine kEN ?_
     refine kR ?_
     refine kC 7 [4,5,6,9,57,58,59] ?_
     refine kE ?_
     refine PJ.blockNormal ?_
     refine PJ.next ?_
     refine kR ?_
     refine RJ.seg 2 [4, 5, 6, 9, 57, 58, 59] (L2 := [(4, .int .i64 0), (5, .bool false), (6, .int .i64 s39.2), (9, .int .i64 ((minI ((IntKind.wrap .i64 ((IntKind.wrap .i64 (s158.1 * 10)) + (IntKind.wrap .i64 (nth y82.1 s158.2))))) 100001))), (57, lsv (encI .u8) 1 y82.1), (58, .int .i64 (y82.1.length : Int)), (59, .int .i64 (IntKind.wrap .i64 (s158.2 + 1)))]) (H2 := []) (by kernel_rfl) ?_
     refine kE ?_
     obtain rfl := oi h176
     exact PJ.loopNext [4, 5, 6, 9, 57, 58, 59] (by kernel_rfl) (by kernel_rfl)
    ·have h175 := condF hb173 hs171
     refine kF ?_
     refine K.exit 0 (by kernel_rfl) ?_
     refine PJ.passExit ?_
     obtain rfl := oi h175
     refine PJ.loopOut (fun e => nomatch e) (fun he178 => ?_)
     have h177 := congrArg some he178
     refine PJ.blockOut ?_
     obtain rfl := oi h177
     exact kN [4, 5, 6, 9]
   ·refine kSR ?_
    refine kC 7 [4,5] ?_
    refine kEN ?_
    refine kX ?_
    obtain rfl := oi h157
    exact kZ hFn hFH hFD

def shape_cutPower (x0 : St22) (x1 : St25) (x2 : List Int) : Option ((List Int) × Int × Bool) :=
 (bif (decide (x1.Exp_ < 1)) then (some (x2, 0, true)) else (Option.bind (slices_Index x2 x0.Exp_) fun y4 => (bif (decide (y4 < 0)) then (some (([] : List Int), 0, false)) else (bif inS (IntKind.wrap .i64 (y4 + 1)) (x2.length : Int) x2.length then (Option.bind (shape_readPower x0 ((cut x2 (IntKind.wrap .i64 (y4 + 1)) (x2.length : Int)))) fun y11 => (bif inS 0 y4 x2.length then (some ((cut x2 0 y4), y11.1, y11.2)) else none)) else none))))
theorem shape_cutPower_ok {x0 : St22} {x1 : St25} {x2 : List Int} {r : (List Int) × Int × Bool} (h : shape_cutPower x0 x1 x2 = some r) : SC Tryz.prog 46 [.agg (encSt22 x0), .agg (encSt25 x1), lsv (encI .i32) 1 x2] [] (.tup [lsv (encI .i32) 1 r.1, .int .i64 r.2.1, .bool r.2.2]) [] := by
 refine kFn (fn := Tryz.f46) (fun F hFn hFH hFD => ?_)
 unfold shape_cutPower at h
 refine kSR ?_
 refine kC 5 [2,3,4,6,7,8] ?_
 refine kEN ?_
 refine kS ?_
 refine kSR ?_
 refine kC 3 [2,3,6,7,8,14] ?_
 refine kEN ?_
 refine J.caseB 14 (b := (decide (x1.Exp_ < 1))) (by kernel_rfl) (fun hb1 => ?_) (fun hb1 => ?_)
 ·have h2 := condT hb1 h
  refine kT ?_
  refine kSR ?_
  refine kC 4 [2,3,6,7,8] ?_
  refine kEN ?_
  refine kX ?_
  refine PJ.passRet ?_
  obtain rfl := oi h2
  exact kZ hFn hFH hFD
 ·have h3 := condF hb1 h
  refine kF ?_
  refine kK ?_
  refine PJ.next ?_
  refine kSR ?_
  refine kC 3 [2,3,6,7,8,16,18] ?_
  obtain ⟨y4, hy5, h6⟩ := bindS h3
  refine RJ.call0 (d := (some 19)) (f := 74) (args := [lsv (encI .i32) 1 x2, .int .i32 x0.Exp_]) (v := .int .i64 y4) (tr2 := []) (by kernel_rfl) (by kernel_rfl) (.cons (Le.refl _) (.cons (Le.refl _) .nil)) (slices_Index_ok hy5) (by kernel_rfl) ?_
  refine RJ.seg 1 [2, 3, 6, 7, 8, 9] (L2 := [(2, lsv (encI .i32) 1 x2), (3, .ptr 0 0), (6, .nl), (7, .int .i64 0), (8, .bool false), (9, .int .i64 y4)]) (H2 := [.box (encSt22 x0), .box (encSt25 x1)]) (by kernel_rfl) ?_
  refine kEN ?_
  refine kS ?_
  refine kSR ?_
  refine kC 2 [2,3,6,7,8,9,21] ?_
  refine kEN ?_
  refine J.caseB 21 (b := (decide (y4 < 0))) (by kernel_rfl) (fun hb7 => ?_) (fun hb7 => ?_)
  ·have h8 := condT hb7 h6
   refine kT ?_
   refine kSR ?_
   refine kC 3 [2,3,6,7,8,9] ?_
   refine kEN ?_
   refine kX ?_
   refine PJ.passRet ?_
   obtain rfl := oi h8
   refine PJ.res (v1 := .tup [.nl, .int .i64 0, .bool false]) (Le.tup (.cons (Le.nl _) (.cons (Le.refl _) (.cons (Le.refl _) .nil)))) ?_
   exact kZ hFn hFH hFD
  ·have h9 := condF hb7 h6
   refine kF ?_
   refine kK ?_
   refine PJ.next ?_
   refine kS ?_
   refine J.keep [2, 3, 6, 7, 8, 9] (L2 := [(2, lsv (encI .i32) 1 x2), (3, .ptr 0 0), (6, .nl), (7, .int .i64 0), (8, .bool false), (9, .int .i64 y4)]) (by kernel_rfl) ?_
   refine K.draw (by kernel_rfl) (by kernel_rfl) (by kernel_rfl) (H2 := [.box (encSt22 x0), .box (encSt25 x1), .res]) (by kernel_rfl) (n := 2) (by kernel_rfl) ?_
   refine kD 4 ?_
   obtain ⟨hm, h10⟩ := asrt h9
   refine RJ.rel (d := (some 27)) (ef := ⟨.lst (((x2.length : Int) : Int).toNat - ((IntKind.wrap .i64 (y4 + 1)) : Int).toNat) 1 (((x2.flatMap (encI .i32)).take (((x2.length : Int) : Int).toNat * 1)).drop (((IntKind.wrap .i64 (y4 + 1)) : Int).toNat * 1)), [], []⟩) (ef' := ⟨.lst (cut x2 (IntKind.wrap .i64 (y4 + 1)) (x2.length : Int)).length 1 ((cut x2 (IntKind.wrap .i64 (y4 + 1)) (x2.length : Int)).flatMap (encI .i32)), [], []⟩) (c := inS (IntKind.wrap .i64 (y4 + 1)) (x2.length : Int) x2.length) (tr2 := [([0, 1], []), ([], []), ([], []), ([], []), ([], [])]) (H2 := [.box (encSt22 x0), .box (encSt25 x1), .res]) (by kernel_rfl) hm (fun hc => N.slice (encI_len .i32) hc) (by kernel_rfl) ?_
   obtain ⟨y11, hy12, h13⟩ := bindS h10
   refine RJ.call0 (d := (some 28)) (f := 75) (args := [.agg (encSt22 x0), lsv (encI .i32) 1 ((cut x2 (IntKind.wrap .i64 (y4 + 1)) (x2.length : Int)))]) (v := .tup [.int .i64 y11.1, .bool y11.2]) (tr2 := [([0, 1], []), ([], []), ([], []), ([], []), ([], []), ([], [4, 5])]) (by kernel_rfl) (by kernel_rfl) (.cons (Le.refl _) (.cons (Le.refl _) .nil)) (shape_readPower_ok hy12) (by kernel_rfl) ?_
   refine kD 5 ?_
   refine kEN ?_
   refine kSR ?_
   refine RJ.seg 2 [6, 7, 8, 10, 11, 31, 32] (L2 := [(6, .nl), (7, .int .i64 0), (8, .bool false), (10, .int .i64 y11.1), (11, .bool y11.2), (31, lsv (encI .i32) 1 x2), (32, .int .i64 y4)]) (H2 := [.box (encSt22 x0), .box (encSt25 x1), .res]) (by kernel_rfl) ?_
   obtain ⟨hm, h14⟩ := asrt h13
   refine RJ.rel (d := (some 33)) (ef := ⟨.lst ((y4 : Int).toNat - (0 : Int).toNat) 1 (((x2.flatMap (encI .i32)).take ((y4 : Int).toNat * 1)).drop ((0 : Int).toNat * 1)), [], []⟩) (ef' := ⟨.lst (cut x2 0 y4).length 1 ((cut x2 0 y4).flatMap (encI .i32)), [], []⟩) (c := inS 0 y4 x2.length) (tr2 := []) (H2 := [.box (encSt22 x0), .box (encSt25 x1), .res]) (by kernel_rfl) hm (fun hc => N.slice (encI_len .i32) hc) (by kernel_rfl) ?_
   refine kC 5 [6,7,8] ?_
   refine kEN ?_
   refine kX ?_
   obtain rfl := oi h14
   exact kZ hFn hFH hFD

def shape_cutPart (x0 : St22) (x1 : List Int) : Option ((List Int) × (List Int) × Bool) :=
 (Option.bind (slices_Index x1 x0.Dec_) fun y1 => (bif (decide (y1 < 0)) then (some (x1, ([] : List Int), true)) else (bif inS (IntKind.wrap .i64 (y1 + 1)) (x1.length : Int) x1.length then (Option.bind (shape_figures x0 ((cut x1 (IntKind.wrap .i64 (y1 + 1)) (x1.length : Int)))) fun y8 => (Option.bind (bif inS 0 y1 x1.length then (bif y8.2 then (some ((decide ((y8.1.length : Int) > 0)))) else (some false)) else none) fun (s15 : Bool) => (some ((cut x1 0 y1), y8.1, s15)))) else none)))
theorem shape_cutPart_ok {x0 : St22} {x1 : List Int} {r : (List Int) × (List Int) × Bool} (h : shape_cutPart x0 x1 = some r) : SC Tryz.prog 47 [.agg (encSt22 x0), lsv (encI .i32) 1 x1] [] (.tup [lsv (encI .i32) 1 r.1, lsv (encI .u8) 1 r.2.1, .bool r.2.2]) [] := by
 refine kFn (fn := Tryz.f47) (fun F hFn hFH hFD => ?_)
 unfold shape_cutPart at h
 refine kSR ?_
 refine kC 4 [1,2,4,5,6] ?_
 refine kEN ?_
 refine kSR ?_
 refine kC 3 [1,2,4,5,6,10,12] ?_
 obtain ⟨y1, hy2, h3⟩ := bindS h
 refine RJ.call0 (d := (some 13)) (f := 74) (args := [lsv (encI .i32) 1 x1, .int .i32 x0.Dec_]) (v := .int .i64 y1) (tr2 := []) (by kernel_rfl) (by kernel_rfl) (.cons (Le.refl _) (.cons (Le.refl _) .nil)) (slices_Index_ok hy2) (by kernel_rfl) ?_
 refine kC 1 [1,2,4,5,6,7] ?_
 refine kEN ?_
 refine kS ?_
 refine kSR ?_
 refine RJ.seg 2 [1, 2, 4, 5, 6, 7, 15] (L2 := [(1, lsv (encI .i32) 1 x1), (2, .ptr 0 0), (4, .nl), (5, .nl), (6, .bool false), (7, .int .i64 y1), (15, .bool (decide (y1 < 0)))]) (H2 := [.box (encSt22 x0)]) (by kernel_rfl) ?_
 refine kEN ?_
 refine J.caseB 15 (b := (decide (y1 < 0))) (by kernel_rfl) (fun hb4 => ?_) (fun hb4 => ?_)
 ·have h5 := condT hb4 h3
  refine kT ?_
  refine kSR ?_
  refine kC 4 [1,2,4,5,6,7] ?_
  refine kEN ?_
  refine kX ?_
  refine PJ.passRet ?_
  obtain rfl := oi h5
  refine PJ.res (v1 := .tup [lsv (encI .i32) 1 x1, .nl, .bool true]) (Le.tup (.cons (Le.refl _) (.cons (Le.nl _) (.cons (Le.refl _) .nil)))) ?_
  exact kZ hFn hFH hFD
 ·have h6 := condF hb4 h3
  refine kF ?_
  refine kK ?_
  refine PJ.next ?_
  refine kS ?_
  refine J.keep [1, 2, 4, 5, 6, 7] (L2 := [(1, lsv (encI .i32) 1 x1), (2, .ptr 0 0), (4, .nl), (5, .nl), (6, .bool false), (7, .int .i64 y1)]) (by kernel_rfl) ?_
  refine K.draw (by kernel_rfl) (by kernel_rfl) (by kernel_rfl) (H2 := [.box (encSt22 x0), .res]) (by kernel_rfl) (n := 1) (by kernel_rfl) ?_
  refine kD 4 ?_
  obtain ⟨hm, h7⟩ := asrt h6
  refine RJ.rel (d := (some 22)) (ef := ⟨.lst (((x1.length : Int) : Int).toNat - ((IntKind.wrap .i64 (y1 + 1)) : Int).toNat) 1 (((x1.flatMap (encI .i32)).take (((x1.length : Int) : Int).toNat * 1)).drop (((IntKind.wrap .i64 (y1 + 1)) : Int).toNat * 1)), [], []⟩) (ef' := ⟨.lst (cut x1 (IntKind.wrap .i64 (y1 + 1)) (x1.length : Int)).length 1 ((cut x1 (IntKind.wrap .i64 (y1 + 1)) (x1.length : Int)).flatMap (encI .i32)), [], []⟩) (c := inS (IntKind.wrap .i64 (y1 + 1)) (x1.length : Int) x1.length) (tr2 := [([0, 1], []), ([], []), ([], []), ([], []), ([], [])]) (H2 := [.box (encSt22 x0), .res]) (by kernel_rfl) hm (fun hc => N.slice (encI_len .i32) hc) (by kernel_rfl) ?_
  obtain ⟨y8, hy9, h10⟩ := bindS h7
  refine RJ.call0 (d := (some 23)) (f := 76) (args := [.agg (encSt22 x0), lsv (encI .i32) 1 ((cut x1 (IntKind.wrap .i64 (y1 + 1)) (x1.length : Int)))]) (v := .tup [lsv (encI .u8) 1 y8.1, .bool y8.2]) (tr2 := [([0, 1], []), ([], []), ([], []), ([], []), ([], []), ([], [2, 3])]) (by kernel_rfl) (by kernel_rfl) (.cons (Le.refl _) (.cons (Le.refl _) .nil)) (shape_figures_ok hy9) (by kernel_rfl) ?_
  refine kD 5 ?_
  refine kEN ?_
  obtain ⟨s15, hy17, h19⟩ := bindS h10
  refine K.cutN (by kernel_rfl) (fun (s15 : Bool) => ([(4, lsv (encI .i32) 1 (cut x1 0 y1)), (5, lsv (encI .u8) 1 y8.1), (6, .bool s15)], [])) s15 ?_ ?_
  ·refine kR ?_
   refine kC 2 [4,5,6,8,9,26,27] ?_
   obtain ⟨hm, h20⟩ := asrt hy17
   refine RJ.rel (d := (some 28)) (ef := ⟨.lst ((y1 : Int).toNat - (0 : Int).toNat) 1 (((x1.flatMap (encI .i32)).take ((y1 : Int).toNat * 1)).drop ((0 : Int).toNat * 1)), [], []⟩) (ef' := ⟨.lst (cut x1 0 y1).length 1 ((cut x1 0 y1).flatMap (encI .i32)), [], []⟩) (c := inS 0 y1 x1.length) (tr2 := []) (H2 := [.box (encSt22 x0), .res]) (by kernel_rfl) hm (fun hc => N.slice (encI_len .i32) hc) (by kernel_rfl) ?_
   refine RJ.seg 3 [4, 5, 6, 8, 28, 29, 31] (L2 := [(4, .nl), (5, .nl), (6, .bool false), (8, lsv (encI .u8) 1 y8.1), (28, lsv (encI .i32) 1 (cut x1 0 y1)), (29, lsv (encI .u8) 1 y8.1), (31, .bool y8.2)]) (H2 := [.box (encSt22 x0), .res]) (by kernel_rfl) ?_
   refine RJ.caseB 31 (b := y8.2) (by kernel_rfl) (fun hb21 => ?_) (fun hb21 => ?_)
   ·have h22 := condT hb21 h20
    refine kC 7 [4,5,6] ?_
    refine kE ?_
    obtain rfl := oi h22
    refine PJ.wk (Wk.sel (L2 := [(4, lsv (encI .i32) 1 (cut x1 0 y1)), (5, lsv (encI .u8) 1 y8.1), (6, .bool ((decide ((y8.1.length : Int) > 0))))]) (H2 := []) 0 (by rw [hFH]; rfl) hFD [] (by kernel_rfl) (by kernel_rfl) (by decide) (by kernel_rfl) (by kernel_rfl) (by kernel_rfl) (by kernel_rfl)) ?_
    exact kN [4, 5, 6]
   ·have h23 := condF hb21 h20
    refine kC 7 [4,5,6] ?_
    refine kE ?_
    obtain rfl := oi h23
    refine PJ.wk (Wk.sel (L2 := [(4, lsv (encI .i32) 1 (cut x1 0 y1)), (5, lsv (encI .u8) 1 y8.1), (6, .bool false)]) (H2 := []) 0 (by rw [hFH]; rfl) hFD [] (by kernel_rfl) (by kernel_rfl) (by decide) (by kernel_rfl) (by kernel_rfl) (by kernel_rfl) (by kernel_rfl)) ?_
    exact kN [4, 5, 6]
  ·refine kX ?_
   obtain rfl := oi h19
   exact kZ hFn hFH hFD

theorem sym_Grouped_ok_0o {x0 : St22} {x1 : List Int} {x2 : Int} {x3 : Int} {r : List Int} (h : sym_Grouped x0 x1 x2 x3 = some r) : SC Tryz.prog 40 [.agg (encSt22 x0), .vc 0, .int .i64 x2, .int .i64 x3] [vecL (encI .u8) 1 5 x1] (.vc 1) [vecL (encI .u8) 1 5 x1, vecL (encI .i32) 1 21 r] := by
 refine kFn (fn := Tryz.f40) (fun F hFn hFH hFD => ?_)
 unfold sym_Grouped at h
 refine kSR ?_
 refine kC 2 [1,2,3,4,8] ?_
 refine kEN ?_
 refine kSR ?_
 refine kC 1 [1,2,3,4,8,9] ?_
 refine kEN ?_
 obtain ⟨s352, hy354, h356⟩ := bindS h
 refine K.cutN (by kernel_rfl) (fun (s352 : (List Int)) => ([(8, .nl), (9, .vc 1)], [vecL (encI .u8) 1 5 x1, vecL (encI .i32) 1 21 s352])) s352 ?_ ?_
 ·refine kSR ?_
  refine kC 3 [1,2,3,4,8,9,12,13] ?_
  refine kEN ?_
  refine K.block 0 (by kernel_rfl) ?_
  refine J.wk (Wk.viv 9 1 21 (by kernel_rfl)) ?_
  refine K.loop (by kernel_rfl) (fun (s357 : Int × (List Int)) => ([(1, .vc 0), (2, .int .i64 x2), (3, .int .i64 x3), (4, .ptr 1 0), (8, .nl), (9, .vc 2), (12, .int .i64 (x1.length : Int)), (13, .int .i64 s357.1)], [vecL (encI .u8) 1 5 x1, .box (encSt22 x0), vecL (encI .i32) 1 21 s357.2])) hy354 [1, 2, 3, 4, 8, 9, 12, 13] (by kernel_rfl) (by kernel_rfl) (fun s357 x591 hs590 => ?_)
  refine kSR ?_
  refine kC 1 [1,2,3,4,8,9,12,13,14] ?_
  refine kEN ?_
  refine kS ?_
  refine J.caseB 14 (b := (decide (s357.1 < (x1.length : Int)))) (by kernel_rfl) (fun hb592 => ?_) (fun hb592 => ?_)
  ·have h593 := condT hb592 hs590
   refine kT ?_
   refine kK ?_
   refine PJ.next ?_
   obtain ⟨s648, hy650, h652⟩ := bindS h593
   refine K.cutN (by kernel_rfl) (fun (s648 : (List Int)) => ([(1, .vc 0), (2, .int .i64 x2), (3, .int .i64 x3), (4, .ptr 1 0), (8, .nl), (9, .vc 2), (12, .int .i64 (x1.length : Int)), (13, .int .i64 s357.1)], [vecL (encI .u8) 1 5 x1, .box (encSt22 x0), vecL (encI .i32) 1 21 s648])) s648 ?_ ?_
   ·refine K.block 1 (by kernel_rfl) ?_
    refine kSR ?_
    refine kC 2 [1,2,3,4,8,9,10,12,13] ?_
    refine kEN ?_
    obtain ⟨s675, hy677, h679⟩ := bindS hy650
    refine K.cutN (by kernel_rfl) (fun (s675 : (List Int)) => ([(1, .vc 0), (2, .int .i64 x2), (3, .int .i64 x3), (4, .ptr 1 0), (8, .nl), (9, .vc 2), (10, .int .i64 s357.1), (12, .int .i64 (x1.length : Int)), (13, .int .i64 s357.1)], [vecL (encI .u8) 1 5 x1, .box (encSt22 x0), vecL (encI .i32) 1 21 s675])) s675 ?_ ?_
    ·obtain ⟨s686, hy688, h690⟩ := bindS hy677
     refine K.cutN (by kernel_rfl) (fun (s686 : Bool) => ([(1, .vc 0), (2, .int .i64 x2), (3, .int .i64 x3), (4, .ptr 1 0), (8, .nl), (9, .vc 2), (10, .int .i64 s357.1), (12, .int .i64 (x1.length : Int)), (13, .int .i64 s357.1), (26, .bool s686)], [vecL (encI .u8) 1 5 x1, .box (encSt22 x0), vecL (encI .i32) 1 21 s357.2])) s686 ?_ ?_
     ·refine kR ?_
      refine kC 3 [1,2,3,4,8,9,10,12,13,18] ?_
      refine RJ.caseB 18 (b := (decide (s357.1 > 0))) (by kernel_rfl) (fun hb691 => ?_) (fun hb691 => ?_)
      ·have h692 := condT hb691 hy688
       refine RJ.seg 6 [1, 2, 3, 4, 8, 9, 10, 12, 13, 18, 22, 23, 24] (L2 := [(1, .vc 0), (2, .int .i64 x2), (3, .int .i64 x3), (4, .ptr 1 0), (8, .nl), (9, .vc 2), (10, .int .i64 s357.1), (12, .int .i64 (x1.length : Int)), (13, .int .i64 s357.1), (18, .bool true), (22, .int .i64 ((IntKind.wrap .i64 ((x1.length : Int) - s357.1)))), (23, .int .i64 x2), (24, .int .i64 x3)]) (H2 := [vecL (encI .u8) 1 5 x1, .box (encSt22 x0), vecL (encI .i32) 1 21 s357.2]) (by kernel_rfl) ?_
       obtain ⟨y694, hy695, h696⟩ := bindS h692
       refine RJ.call0 (d := (some 25)) (f := 72) (args := [.int .i64 ((IntKind.wrap .i64 ((x1.length : Int) - s357.1))), .int .i64 x2, .int .i64 x3]) (v := .bool y694) (tr2 := []) (by kernel_rfl) (by kernel_rfl) (.cons (Le.refl _) (.cons (Le.refl _) (.cons (Le.refl _) .nil))) (sym_cut_ok hy695) (by kernel_rfl) ?_
       refine kC 1 [1,2,3,4,8,9,10,12,13,26] ?_
       refine kE ?_
       obtain rfl := oi h696
       exact kN [1, 2, 3, 4, 8, 9, 10, 12, 13, 26]
      ·have h693 := condF hb691 hy688
       refine RJ.seg 8 [1, 2, 3, 4, 8, 9, 10, 12, 13, 26] (L2 := [(1, .vc 0), (2, .int .i64 x2), (3, .int .i64 x3), (4, .ptr 1 0), (8, .nl), (9, .vc 2), (10, .int .i64 s357.1), (12, .int .i64 (x1.length : Int)), (13, .int .i64 s357.1), (26, .bool false)]) (H2 := [vecL (encI .u8) 1 5 x1, .box (encSt22 x0), vecL (encI .i32) 1 21 s357.2]) (by kernel_rfl) ?_
       refine kE ?_
       obtain rfl := oi h693
       exact kN [1, 2, 3, 4, 8, 9, 10, 12, 13, 26]
     ·refine J.caseB 26 (b := s686) (by kernel_rfl) (fun hb697 => ?_) (fun hb697 => ?_)
      ·have h698 := condT hb697 h690
       refine kT ?_
       refine kR ?_
       refine kC 4 [1,2,3,4,8,9,10,12,13,27,30] ?_
       obtain ⟨hm700, h701⟩ := asrt h698
       refine RJ.rel (d := (some 31)) (ef := ⟨.vc 4, [2, 3], [(2, .gone), (4, .vec (s357.2.length + ([x0.Group_] : List Int).length) 1 21 (s357.2.flatMap (encI .i32) ++ ([x0.Group_] : List Int).flatMap (encI .i32)))]⟩) (ef' := ⟨.vc 4, [2, 3], [(2, .gone), (4, vecL (encI .i32) 1 21 (s357.2 ++ ([x0.Group_] : List Int)))]⟩) (c := room (s357.2.length + ([x0.Group_] : List Int).length)) (tr2 := []) (H2 := [vecL (encI .u8) 1 5 x1, .box (encSt22 x0), .gone, vecL (encI .i32) 1 21 ([x0.Group_] : List Int), vecL (encI .i32) 1 21 (s357.2 ++ ([x0.Group_] : List Int))]) (by kernel_rfl) hm700 (fun hc => N.app) (by kernel_rfl) ?_
       refine kC 1 [1,2,3,4,8,9,10,12,13] ?_
       refine kE ?_
       obtain rfl := oi h701
       refine PJ.wk (Wk.sel (L2 := [(1, .vc 0), (2, .int .i64 x2), (3, .int .i64 x3), (4, .ptr 1 0), (8, .nl), (9, .vc 2), (10, .int .i64 s357.1), (12, .int .i64 (x1.length : Int)), (13, .int .i64 s357.1)]) (H2 := [vecL (encI .u8) 1 5 x1, .box (encSt22 x0), vecL (encI .i32) 1 21 (s357.2 ++ ([x0.Group_] : List Int))]) 1 (by rw [hFH]; rfl) hFD [0, 1, 4] (by kernel_rfl) (by kernel_rfl) (by decide) (by kernel_rfl) (by kernel_rfl) (by kernel_rfl) (by kernel_rfl)) ?_
       exact kN [1, 2, 3, 4, 8, 9, 10, 12, 13]
      ·have h699 := condF hb697 h690
       refine kF ?_
       refine kK ?_
       obtain rfl := oi h699
       exact kN [1, 2, 3, 4, 8, 9, 10, 12, 13]
    ·refine J.keep [1, 2, 3, 4, 8, 9, 10, 12, 13] (L2 := [(1, .vc 0), (2, .int .i64 x2), (3, .int .i64 x3), (4, .ptr 1 0), (8, .nl), (9, .vc 2), (10, .int .i64 s357.1), (12, .int .i64 (x1.length : Int)), (13, .int .i64 s357.1)]) (by kernel_rfl) ?_
     refine K.draw (by kernel_rfl) (by kernel_rfl) (by kernel_rfl) (H2 := [vecL (encI .u8) 1 5 x1, .box (encSt22 x0), vecL (encI .i32) 1 21 s675, .res, .res]) (by kernel_rfl) (n := 3) (by kernel_rfl) ?_
     refine kD 5 ?_
     obtain ⟨hm702, h703⟩ := asrt h679
     refine RJ.rel (d := (some 37)) (ef := ⟨.ptr 0 ((s357.1 : Int).toNat * 1), [0], []⟩) (ef' := ⟨.ptr 0 ((s357.1 : Int).toNat * 1), [0], []⟩) (c := inR s357.1 x1.length) (tr2 := [([], []), ([], []), ([2, 3], []), ([], []), ([], []), ([1], [])]) (H2 := [vecL (encI .u8) 1 5 x1, .box (encSt22 x0), vecL (encI .i32) 1 21 s675, .res, .res]) (by kernel_rfl) hm702 (fun hc => rfl) (by kernel_rfl) ?_
     refine RJ.rel (d := (some 38)) (ef := ⟨(((x1).flatMap (encI .u8)).drop ((s357.1 : Int).toNat * 1)).headD .undef, [0], []⟩) (ef' := ⟨.int .u8 (nth x1 s357.1), [0], []⟩) (c := Nat.blt ((s357.1 : Int).toNat * 1) (x1.flatMap (encI .u8)).length) (tr2 := [([], []), ([], []), ([2, 3], []), ([], []), ([], []), ([1], []), ([0, 1], [])]) (H2 := [vecL (encI .u8) 1 5 x1, .box (encSt22 x0), vecL (encI .i32) 1 21 s675, .res, .res]) (by kernel_rfl) (loadv_ok (encI_len .u8) rfl hm702) (fun hc => N.load1 (encI_len .u8) (fun _ => rfl) hm702) (by kernel_rfl) ?_
     refine kD 3 ?_
     obtain ⟨hm704, h705⟩ := asrt h703
     refine RJ.rel (d := (some 42)) (ef := ⟨.vc 4, [2, 3], [(2, .gone), (4, .vec (s675.length + (([(IntKind.wrap .i32 (x0.Zero_ + (IntKind.wrap .i32 (nth x1 s357.1))))] : List Int)).length) 1 21 (s675.flatMap (encI .i32) ++ (([(IntKind.wrap .i32 (x0.Zero_ + (IntKind.wrap .i32 (nth x1 s357.1))))] : List Int)).flatMap (encI .i32)))]⟩) (ef' := ⟨.vc 4, [2, 3], [(2, .gone), (4, vecL (encI .i32) 1 21 (s675 ++ (([(IntKind.wrap .i32 (x0.Zero_ + (IntKind.wrap .i32 (nth x1 s357.1))))] : List Int))))]⟩) (c := room (s675.length + (([(IntKind.wrap .i32 (x0.Zero_ + (IntKind.wrap .i32 (nth x1 s357.1))))] : List Int)).length)) (tr2 := [([], []), ([], []), ([2, 3], []), ([], []), ([], []), ([1], []), ([0, 1], []), ([], []), ([], []), ([], [6, 7, 6, 7]), ([4, 5, 6, 7], [4, 5, 8, 9, 8, 9])]) (H2 := [vecL (encI .u8) 1 5 x1, .box (encSt22 x0), .gone, vecL (encI .i32) 1 21 (([(IntKind.wrap .i32 (x0.Zero_ + (IntKind.wrap .i32 (nth x1 s357.1))))] : List Int)), vecL (encI .i32) 1 21 ((s675 ++ (([(IntKind.wrap .i32 (x0.Zero_ + (IntKind.wrap .i32 (nth x1 s357.1))))] : List Int))))]) (by kernel_rfl) hm704 (fun hc => N.app) (by kernel_rfl) ?_
     refine kD 1 ?_
     refine kE ?_
     refine PJ.blockNormal ?_
     obtain rfl := oi h705
     refine PJ.wk (Wk.sel (L2 := [(1, .vc 0), (2, .int .i64 x2), (3, .int .i64 x3), (4, .ptr 1 0), (8, .nl), (9, .vc 2), (12, .int .i64 (x1.length : Int)), (13, .int .i64 s357.1)]) (H2 := [vecL (encI .u8) 1 5 x1, .box (encSt22 x0), vecL (encI .i32) 1 21 ((s675 ++ (([(IntKind.wrap .i32 (x0.Zero_ + (IntKind.wrap .i32 (nth x1 s357.1))))] : List Int))))]) 1 (by rw [hFH]; rfl) hFD [0, 1, 4] (by kernel_rfl) (by kernel_rfl) (by decide) (by kernel_rfl) (by kernel_rfl) (by kernel_rfl) (by kernel_rfl)) ?_
     exact kN [1, 2, 3, 4, 8, 9, 12, 13]
   ·refine kR ?_
    refine kC 2 [1,2,3,4,8,9,12,13] ?_
    refine kE ?_
    obtain rfl := oi h652
    exact PJ.loopNext [1, 2, 3, 4, 8, 9, 12, 13] (by kernel_rfl) (by kernel_rfl)
  ·have h594 := condF hb592 hs590
   refine kF ?_
   refine K.exit 0 (by kernel_rfl) ?_
   refine PJ.passExit ?_
   obtain rfl := oi h594
   refine PJ.loopOut (fun e => nomatch e) (fun he707 => ?_)
   have h706 := congrArg some he707
   refine PJ.blockOut ?_
   obtain rfl := oi h706
   refine PJ.wk (Wk.sel (L2 := [(8, .nl), (9, .vc 1)]) (H2 := [vecL (encI .u8) 1 5 x1, vecL (encI .i32) 1 21 s357.2]) 1 (by rw [hFH]; rfl) hFD [0, 2] (by kernel_rfl) (by kernel_rfl) (by decide) (by kernel_rfl) (by kernel_rfl) (by kernel_rfl) (by kernel_rfl)) ?_
   exact kN [8, 9]
 ·refine kSR ?_
  refine kC 2 [8] ?_
  refine kEN ?_
  refine kX ?_
  obtain rfl := oi h356
  exact K.retV (H0 := [vecL (encI .u8) 1 5 x1]) [0, 1] (.inr rfl) hFn hFH hFD (by kernel_rfl) (v1 := .vc 1) (by kernel_rfl) (by kernel_rfl) (by kernel_rfl) (by decide) (by kernel_rfl) (by kernel_rfl) (by kernel_rfl) (by kernel_rfl) (by kernel_rfl)

def slices_Equal (x0 : List Int) (x1 : List Int) : Option (Bool) :=
 (bif (decide (¬ (x0.length : Int) = (x1.length : Int))) then (some false) else (Option.bind (loopN (fun (s51 : Int) => (bif (decide (s51 < (x0.length : Int))) then (bif inR s51 x0.length then (bif inR s51 x1.length then (bif (decide (¬ (nth x0 s51) = (nth x1 s51))) then (some (.inr (.inr false))) else (some (.inl (IntKind.wrap .i64 (s51 + 1))))) else none) else none) else (some (.inr (.inl ()))))) big 0) (joinX fun (s46 : Unit) => (some true))))
theorem slices_Equal_ok {x0 : List Int} {x1 : List Int} {r : Bool} (h : slices_Equal x0 x1 = some r) : SC Tryz.prog 78 [lsv (encI .i32) 1 x0, lsv (encI .i32) 1 x1] [] (.bool r) [] := by
 refine kFn (fn := Tryz.f78) (fun F hFn hFH hFD => ?_)
 unfold slices_Equal at h
 refine kSR ?_
 refine kC 1 [0,1,4] ?_
 refine kEN ?_
 refine kS ?_
 refine kSR ?_
 refine kC 5 [0,1,4,10] ?_
 refine kEN ?_
 refine J.caseB 10 (b := (decide (¬ (x0.length : Int) = (x1.length : Int)))) (by kernel_rfl) (fun hb1 => ?_) (fun hb1 => ?_)
 ·have h2 := condT hb1 h
  refine kT ?_
  refine kSR ?_
  refine kC 1 [0,1,4] ?_
  refine kEN ?_
  refine kX ?_
  refine PJ.passRet ?_
  obtain rfl := oi h2
  exact kZ hFn hFH hFD
 ·have h3 := condF hb1 h
  refine kF ?_
  refine kK ?_
  refine PJ.next ?_
  obtain ⟨y47, hy48, h49⟩ := bindS h3
  refine K.cutX (by kernel_rfl) (fun (s46 : Unit) => ([(4, .bool false)], [])) y47 ?_ (fun s46 hs => ?_)
  ·refine kSR ?_
   refine kC 3 [0,1,4,12,13] ?_
   refine kEN ?_
   refine K.block 0 (by kernel_rfl) ?_
   refine K.loop (by kernel_rfl) (fun (s51 : Int) => ([(0, lsv (encI .i32) 1 x0), (1, lsv (encI .i32) 1 x1), (4, .bool false), (12, .int .i64 (x0.length : Int)), (13, .int .i64 s51)], [])) hy48 [0, 1, 4, 12, 13] (by kernel_rfl) (by kernel_rfl) (fun s51 x79 hs78 => ?_)
   refine kSR ?_
   refine kC 1 [0,1,4,12,13,14] ?_
   refine kEN ?_
   refine kS ?_
   refine J.caseB 14 (b := (decide (s51 < (x0.length : Int)))) (by kernel_rfl) (fun hb80 => ?_) (fun hb80 => ?_)
   ·have h81 := condT hb80 hs78
    refine kT ?_
    refine kK ?_
    refine PJ.next ?_
    refine kS ?_
    refine K.block 1 (by kernel_rfl) ?_
    refine kSR ?_
    refine kC 2 [0,1,4,5,12,13] ?_
    refine kEN ?_
    refine kS ?_
    refine J.keep [0, 1, 4, 5, 12, 13] (L2 := [(0, lsv (encI .i32) 1 x0), (1, lsv (encI .i32) 1 x1), (4, .bool false), (5, .int .i64 s51), (12, .int .i64 (x0.length : Int)), (13, .int .i64 s51)]) (by kernel_rfl) ?_
    refine K.draw (by kernel_rfl) (by kernel_rfl) (by kernel_rfl) (H2 := []) (by kernel_rfl) (n := 0) (by kernel_rfl) ?_
    refine kD 2 ?_
    obtain ⟨hm, h83⟩ := asrt h81
    refine RJ.rel (d := (some 18)) (ef := ⟨.ep (((x0.flatMap (encI .i32)).drop ((s51 : Int).toNat * 1)).take 1), [], []⟩) (ef' := ⟨.ep ((encI .i32) (nth x0 s51)), [], []⟩) (c := inR s51 x0.length) (tr2 := [([], []), ([], []), ([], [])]) (H2 := []) (by kernel_rfl) hm (fun hc => N.idx (encI_len .i32) hc) (by kernel_rfl) ?_
    refine RJ.segD 3 (tr2 := [([], []), ([], []), ([], []), ([], []), ([], []), ([], [])]) (L2 := [(21, .int .i64 s51), (20, lsv (encI .i32) 1 x1), (19, .int .i32 (nth x0 s51)), (18, .ep [.int .i32 (nth x0 s51)]), (17, .int .i64 s51), (16, lsv (encI .i32) 1 x0), (0, lsv (encI .i32) 1 x0), (1, lsv (encI .i32) 1 x1), (4, .bool false), (5, .int .i64 s51), (12, .int .i64 (x0.length : Int)), (13, .int .i64 s51)]) (H2 := []) (by kernel_rfl) ?_
    obtain ⟨hm, h84⟩ := asrt h83
    refine RJ.rel (d := (some 22)) (ef := ⟨.ep (((x1.flatMap (encI .i32)).drop ((s51 : Int).toNat * 1)).take 1), [], []⟩) (ef' := ⟨.ep ((encI .i32) (nth x1 s51)), [], []⟩) (c := inR s51 x1.length) (tr2 := [([], []), ([], []), ([], []), ([], []), ([], []), ([], []), ([], [])]) (H2 := []) (by kernel_rfl) hm (fun hc => N.idx (encI_len .i32) hc) (by kernel_rfl) ?_
    refine kD 2 ?_
    refine kEN ?_
    refine J.caseB 24 (b := (decide (¬ (nth x0 s51) = (nth x1 s51)))) (by kernel_rfl) (fun hb85 => ?_) (fun hb85 => ?_)
    ·have h86 := condT hb85 h84
     refine kT ?_
     refine kSR ?_
     refine kC 1 [0,1,4,12,13] ?_
     refine kEN ?_
     refine kX ?_
     refine PJ.blockRet ?_
     refine PJ.passRet ?_
     obtain rfl := oi h86
     refine PJ.loopOut (fun e => nomatch e) (fun he90 => ?_)
     have h88 := congrArg some he90
     refine PJ.blockRet ?_
     obtain rfl := oi h88
     have h89 := joinX_inr h49
     refine PJ.cutXr (fun e => nomatch e) ?_
     obtain rfl := oi h89
     exact kZ hFn hFH hFD
    ·have h87 := condF hb85 h84
     refine kF ?_
     refine kK ?_
     refine PJ.blockNormal ?_
     refine PJ.next ?_
     refine kR ?_
     refine kC 2 [0,1,4,12,13] ?_
     refine kE ?_
     obtain rfl := oi h87
     exact PJ.loopNext [0, 1, 4, 12, 13] (by kernel_rfl) (by kernel_rfl)
   ·have h82 := condF hb80 hs78
    refine kF ?_
    refine K.exit 0 (by kernel_rfl) ?_
    refine PJ.passExit ?_
    obtain rfl := oi h82
    refine PJ.loopOut (fun e => nomatch e) (fun he92 => ?_)
    have h91 := congrArg some he92
    refine PJ.blockOut ?_
    obtain rfl := oi h91
    exact PJ.cutXl [4] (by kernel_rfl) (by kernel_rfl)
  ·subst hs
   have h50 := joinX_inl h49
   refine kSR ?_
   refine kC 1 [4] ?_
   refine kEN ?_
   refine kX ?_
   obtain rfl := oi h50
   exact kZ hFn hFH hFD

def sym_Ungrouped (x0 : St22) (x1 : List Int) (x2 : Int) (x3 : Int) : Option ((List Int) × Int × Int) :=
 (Option.bind (loopN (fun (s129 : Int × (List Int)) => (bif (decide (s129.1 < (x1.length : Int))) then (Option.bind (bif inR s129.1 x1.length then (Option.bind (sym_Value x0 (nth x1 s129.1)) fun y236 => (bif y236.2 then (bif room (s129.2.length + ([y236.1] : List Int).length) then (some (.inl (s129.2 ++ ([y236.1] : List Int)))) else none) else (bif (decide (¬ (nth x1 s129.1) = x0.Group_)) then (some (.inr (.inr (.inr (([] : List Int), s129.1, 10))))) else (some (.inl s129.2))))) else none) (joinX fun (s230 : (List Int)) => (some (.inl ((IntKind.wrap .i64 (s129.1 + 1)), s230))))) else (some (.inr (.inl s129.2))))) big (0, ([] : List Int))) (joinX fun (s124 : (List Int)) => (Option.bind (sym_Grouped x0 s124 x2 x3) fun y252 => (Option.bind (slices_Equal y252 x1) fun y255 => (bif (!y255) then (some (([] : List Int), (x1.length : Int), 10)) else (some (s124, 0, 0)))))))
theorem sym_Ungrouped_ok_o {x0 : St22} {x1 : List Int} {x2 : Int} {x3 : Int} {r : (List Int) × Int × Int} (h : sym_Ungrouped x0 x1 x2 x3 = some r) : SC Tryz.prog 48 [.agg (encSt22 x0), lsv (encI .i32) 1 x1, .int .i64 x2, .int .i64 x3] [] (.tup [.vc 0, .int .i64 r.2.1, .int .i64 r.2.2]) [vecL (encI .u8) 1 5 r.1] := by
 refine kFn (fn := Tryz.f48) (fun F hFn hFH hFD => ?_)
 unfold sym_Ungrouped at h
 refine kSR ?_
 refine kC 4 [1,2,3,4,8,9,10] ?_
 refine kEN ?_
 refine kSR ?_
 refine kC 1 [1,2,3,4,8,9,10,11] ?_
 refine kEN ?_
 obtain ⟨y125, hy126, h127⟩ := bindS h
 refine K.cutX (by kernel_rfl) (fun (s124 : (List Int)) => ([(1, lsv (encI .i32) 1 x1), (2, .int .i64 x2), (3, .int .i64 x3), (4, .ptr 0 0), (8, .nl), (9, .int .i64 0), (10, .int .i64 0), (11, .vc 1)], [.box (encSt22 x0), vecL (encI .u8) 1 5 s124])) y125 ?_ (fun s124 hs => ?_)
 ·refine kSR ?_
  refine kC 3 [1,2,3,4,8,9,10,11,16,17,18] ?_
  refine kEN ?_
  refine K.block 0 (by kernel_rfl) ?_
  refine J.wk (Wk.viv 11 1 5 (by kernel_rfl)) ?_
  refine K.loop (by kernel_rfl) (fun (s129 : Int × (List Int)) => ([(1, lsv (encI .i32) 1 x1), (2, .int .i64 x2), (3, .int .i64 x3), (4, .ptr 0 0), (8, .nl), (9, .int .i64 0), (10, .int .i64 0), (11, .vc 1), (16, lsv (encI .i32) 1 x1), (17, .int .i64 (x1.length : Int)), (18, .int .i64 s129.1)], [.box (encSt22 x0), vecL (encI .u8) 1 5 s129.2])) hy126 [1, 2, 3, 4, 8, 9, 10, 11, 16, 17, 18] (by kernel_rfl) (by kernel_rfl) (fun s129 x211 hs210 => ?_)
  refine kSR ?_
  refine kC 1 [1,2,3,4,8,9,10,11,16,17,18,19] ?_
  refine kEN ?_
  refine kS ?_
  refine J.caseB 19 (b := (decide (s129.1 < (x1.length : Int)))) (by kernel_rfl) (fun hb212 => ?_) (fun hb212 => ?_)
  ·have h213 := condT hb212 hs210
   refine kT ?_
   refine kK ?_
   refine PJ.next ?_
   obtain ⟨y231, hy232, h233⟩ := bindS h213
   refine K.cutX (by kernel_rfl) (fun (s230 : (List Int)) => ([(1, lsv (encI .i32) 1 x1), (2, .int .i64 x2), (3, .int .i64 x3), (4, .ptr 0 0), (8, .nl), (9, .int .i64 0), (10, .int .i64 0), (11, .vc 1), (16, lsv (encI .i32) 1 x1), (17, .int .i64 (x1.length : Int)), (18, .int .i64 s129.1)], [.box (encSt22 x0), vecL (encI .u8) 1 5 s230])) y231 ?_ (fun s230 hs => ?_)
   ·refine K.block 1 (by kernel_rfl) ?_
    refine kSR ?_
    refine kC 1 [1,2,3,4,8,9,10,11,16,17,18,20] ?_
    obtain ⟨hm, h235⟩ := asrt hy232
    refine RJ.rel (d := (some 21)) (ef := ⟨.ep (((x1.flatMap (encI .i32)).drop ((s129.1 : Int).toNat * 1)).take 1), [], []⟩) (ef' := ⟨.ep ((encI .i32) (nth x1 s129.1)), [], []⟩) (c := inR s129.1 x1.length) (tr2 := []) (H2 := [.box (encSt22 x0), vecL (encI .u8) 1 5 s129.2]) (by kernel_rfl) hm (fun hc => N.idx (encI_len .i32) hc) (by kernel_rfl) ?_
    refine kC 3 [1,2,3,4,8,9,10,11,12,13,16,17,18] ?_
    refine kEN ?_
    refine kSR ?_
    refine RJ.seg 2 [1, 2, 3, 4, 8, 9, 10, 11, 12, 13, 16, 17, 18, 24, 25] (L2 := [(1, lsv (encI .i32) 1 x1), (2, .int .i64 x2), (3, .int .i64 x3), (4, .ptr 0 0), (8, .nl), (9, .int .i64 0), (10, .int .i64 0), (11, .vc 1), (12, .int .i64 s129.1), (13, .int .i32 (nth x1 s129.1)), (16, lsv (encI .i32) 1 x1), (17, .int .i64 (x1.length : Int)), (18, .int .i64 s129.1), (24, .agg (encSt22 x0)), (25, .int .i32 (nth x1 s129.1))]) (H2 := [.box (encSt22 x0), vecL (encI .u8) 1 5 s129.2]) (by kernel_rfl) ?_
    obtain ⟨y236, hy237, h238⟩ := bindS h235
    refine RJ.call0 (d := (some 26)) (f := 77) (args := [.agg (encSt22 x0), .int .i32 (nth x1 s129.1)]) (v := .tup [.int .u8 y236.1, .bool y236.2]) (tr2 := []) (by kernel_rfl) (by kernel_rfl) (.cons (Le.refl _) (.cons (Le.refl _) .nil)) (sym_Value_ok hy237) (by kernel_rfl) ?_
    refine kC 5 [1,2,3,4,8,9,10,11,12,13,14,15,16,17,18] ?_
    refine kEN ?_
    refine K.block 2 (by kernel_rfl) ?_
    refine kSR ?_
    refine kC 2 [1,2,3,4,8,9,10,11,12,13,14,16,17,18,29] ?_
    refine kEN ?_
    refine J.caseB 29 (b := y236.2) (by kernel_rfl) (fun hb239 => ?_) (fun hb239 => ?_)
    ·have h240 := condT hb239 h238
     refine kT ?_
     refine kR ?_
     refine kC 3 [1,2,3,4,8,9,10,11,16,17,18,31,33] ?_
     obtain ⟨hm, h242⟩ := asrt h240
     refine RJ.rel (d := (some 34)) (ef := ⟨.vc 3, [1, 2], [(1, .gone), (3, .vec (s129.2.length + ([y236.1] : List Int).length) 1 5 (s129.2.flatMap (encI .u8) ++ ([y236.1] : List Int).flatMap (encI .u8)))]⟩) (ef' := ⟨.vc 3, [1, 2], [(1, .gone), (3, vecL (encI .u8) 1 5 (s129.2 ++ ([y236.1] : List Int)))]⟩) (c := roomB (s129.2.length + ([y236.1] : List Int).length)) (tr2 := []) (H2 := [.box (encSt22 x0), .gone, vecL (encI .u8) 1 5 ([y236.1] : List Int), vecL (encI .u8) 1 5 (s129.2 ++ ([y236.1] : List Int))]) (by kernel_rfl) (roomB_of_room hm) (fun hc => N.app) (by kernel_rfl) ?_
     refine RJ.seg 1 [1, 2, 3, 4, 8, 9, 10, 11, 16, 17, 18] (L2 := [(1, lsv (encI .i32) 1 x1), (2, .int .i64 x2), (3, .int .i64 x3), (4, .ptr 0 0), (8, .nl), (9, .int .i64 0), (10, .int .i64 0), (11, .vc 3), (16, lsv (encI .i32) 1 x1), (17, .int .i64 (x1.length : Int)), (18, .int .i64 s129.1)]) (H2 := [.box (encSt22 x0), .gone, vecL (encI .u8) 1 5 ([y236.1] : List Int), vecL (encI .u8) 1 5 (s129.2 ++ ([y236.1] : List Int))]) (by kernel_rfl) ?_
     refine kE ?_
     refine PJ.blockNormal ?_
     refine PJ.blockNormal ?_
     obtain rfl := oi h242
     refine PJ.wk (Wk.sel (L2 := [(1, lsv (encI .i32) 1 x1), (2, .int .i64 x2), (3, .int .i64 x3), (4, .ptr 0 0), (8, .nl), (9, .int .i64 0), (10, .int .i64 0), (11, .vc 1), (16, lsv (encI .i32) 1 x1), (17, .int .i64 (x1.length : Int)), (18, .int .i64 s129.1)]) (H2 := [.box (encSt22 x0), vecL (encI .u8) 1 5 (s129.2 ++ ([y236.1] : List Int))]) 0 (by rw [hFH]; rfl) hFD [0, 3] (by kernel_rfl) (by kernel_rfl) (by decide) (by kernel_rfl) (by kernel_rfl) (by kernel_rfl) (by kernel_rfl)) ?_
     exact PJ.cutXl [1, 2, 3, 4, 8, 9, 10, 11, 16, 17, 18] (by kernel_rfl) (by kernel_rfl)
    ·have h241 := condF hb239 h238
     refine kF ?_
     refine kSR ?_
     refine kC 5 [1,2,3,4,8,9,10,11,12,16,17,18,35] ?_
     refine kEN ?_
     refine J.caseB 35 (b := (decide (¬ (nth x1 s129.1) = x0.Group_))) (by kernel_rfl) (fun hb243 => ?_) (fun hb243 => ?_)
     ·have h244 := condT hb243 h241
      refine kT ?_
      refine kSR ?_
      refine RJ.seg 4 [1, 2, 3, 4, 8, 9, 10, 11, 16, 17, 18] (L2 := [(1, lsv (encI .i32) 1 x1), (2, .int .i64 x2), (3, .int .i64 x3), (4, .ptr 0 0), (8, .nl), (9, .int .i64 s129.1), (10, .int .i64 10), (11, .vc 1), (16, lsv (encI .i32) 1 x1), (17, .int .i64 (x1.length : Int)), (18, .int .i64 s129.1)]) (H2 := [.box (encSt22 x0), vecL (encI .u8) 1 5 s129.2]) (by kernel_rfl) ?_
      refine kEN ?_
      refine kX ?_
      refine PJ.blockRet ?_
      refine PJ.blockRet ?_
      obtain rfl := oi h244
      have h246 := joinX_inr h233
      refine PJ.cutXr (fun e => nomatch e) ?_
      obtain rfl := oi h246
      refine PJ.loopOut (fun e => nomatch e) (fun he249 => ?_)
      have h247 := congrArg some he249
      refine PJ.blockRet ?_
      obtain rfl := oi h247
      have h248 := joinX_inr h127
      refine PJ.cutXr (fun e => nomatch e) ?_
      obtain rfl := oi h248
      refine PJ.wk (Wk.viv 8 1 5 (by kernel_rfl)) ?_
      exact K.retV (H0 := []) [2] (.inr rfl) hFn hFH hFD (by kernel_rfl) (v1 := .tup [.vc 2, .int .i64 s129.1, .int .i64 10]) (by kernel_rfl) (by kernel_rfl) (by kernel_rfl) (by decide) (by kernel_rfl) (by kernel_rfl) (by kernel_rfl) (by kernel_rfl) (by kernel_rfl)
     ·have h245 := condF hb243 h241
      refine kF ?_
      refine kK ?_
      refine PJ.blockNormal ?_
      refine PJ.blockNormal ?_
      obtain rfl := oi h245
      exact PJ.cutXl [1, 2, 3, 4, 8, 9, 10, 11, 16, 17, 18] (by kernel_rfl) (by kernel_rfl)
   ·subst hs
    have h234 := joinX_inl h233
    refine kR ?_
    refine kC 2 [1,2,3,4,8,9,10,11,16,17,18] ?_
    refine kE ?_
    obtain rfl := oi h234
    exact PJ.loopNext [1, 2, 3, 4, 8, 9, 10, 11, 16, 17, 18] (by kernel_rfl) (by kernel_rfl)
  ·have h214 := condF hb212 hs210
   refine kF ?_
   refine K.exit 0 (by kernel_rfl) ?_
   refine PJ.passExit ?_
   obtain rfl := oi h214
   refine PJ.loopOut (fun e => nomatch e) (fun he251 => ?_)
   have h250 := congrArg some he251
   refine PJ.blockOut ?_
   obtain rfl := oi h250
   exact PJ.cutXl [1, 2, 3, 4, 8, 9, 10, 11] (by kernel_rfl) (by kernel_rfl)
 ·subst hs
  have h128 := joinX_inl h127
  refine kS ?_
  refine kSR ?_
  refine kC 4 [1,8,9,10,11,42,43,44,45] ?_
  obtain ⟨y252, hy253, h254⟩ := bindS h128
  refine RJ.callG (d := (some 46)) (f := 40) (args := [.agg (encSt22 x0), .vc 1, .int .i64 x2, .int .i64 x3]) (args0 := [.agg (encSt22 x0), .vc 0, .int .i64 x2, .int .i64 x3]) (v0 := .vc 1) (v := .vc 2) (tr2 := []) (H0 := [vecL (encI .u8) 1 5 s124]) (H0' := [vecL (encI .u8) 1 5 s124, vecL (encI .i32) 1 21 y252]) (H2 := [.box (encSt22 x0), vecL (encI .u8) 1 5 s124, vecL (encI .i32) 1 21 y252]) [1] (by kernel_rfl) (by kernel_rfl) (by kernel_rfl) (by kernel_rfl) (by decide) (by kernel_rfl) (by kernel_rfl) (by kernel_rfl) (.cons (Le.refl _) (.cons (Le.refl _) (.cons (Le.refl _) (.cons (Le.refl _) .nil)))) (sym_Grouped_ok_0o hy253) (by kernel_rfl) (by kernel_rfl) (by kernel_rfl) ?_
  refine kC 1 [1,8,9,10,11,46,47] ?_
  obtain ⟨y255, hy256, h257⟩ := bindS h254
  refine RJ.callL (d := (some 48)) (f := 78) (args := [.vc 2, lsv (encI .i32) 1 x1]) (args0 := [.vc 0, lsv (encI .i32) 1 x1]) (args1 := [lsv (encI .i32) 1 y252, lsv (encI .i32) 1 x1]) (H0 := [vecL (encI .i32) 1 21 y252]) (v := .bool y255) (tr2 := []) [2] (by kernel_rfl) (by kernel_rfl) (by kernel_rfl) (by kernel_rfl) (by decide) (by kernel_rfl) (by kernel_rfl) (by kernel_rfl) (by kernel_rfl) (.cons (Le.refl _) (.cons (Le.refl _) .nil)) (slices_Equal_ok hy256) (by kernel_rfl) (by kernel_rfl) ?_
  refine kC 1 [1,8,9,10,11,49] ?_
  refine kEN ?_
  refine J.caseB 49 (b := (!y255)) (by kernel_rfl) (fun hb258 => ?_) (fun hb258 => ?_)
  ·have h259 := condT hb258 h257
   refine kT ?_
   refine kSR ?_
   refine RJ.seg 5 [8, 9, 10, 11] (L2 := [(8, .nl), (9, .int .i64 (x1.length : Int)), (10, .int .i64 10), (11, .vc 1)]) (H2 := [.box (encSt22 x0), vecL (encI .u8) 1 5 s124, vecL (encI .i32) 1 21 y252]) (by kernel_rfl) ?_
   refine kEN ?_
   refine kX ?_
   refine PJ.passRet ?_
   obtain rfl := oi h259
   refine PJ.wk (Wk.viv 8 1 5 (by kernel_rfl)) ?_
   exact K.retV (H0 := []) [3] (.inr rfl) hFn hFH hFD (by kernel_rfl) (v1 := .tup [.vc 3, .int .i64 (x1.length : Int), .int .i64 10]) (by kernel_rfl) (by kernel_rfl) (by kernel_rfl) (by decide) (by kernel_rfl) (by kernel_rfl) (by kernel_rfl) (by kernel_rfl) (by kernel_rfl)
  ·have h260 := condF hb258 h257
   refine kF ?_
   refine kK ?_
   refine PJ.next ?_
   refine kSR ?_
   refine RJ.seg 4 [8, 9, 10] (L2 := [(8, .vc 1), (9, .int .i64 0), (10, .int .i64 0)]) (H2 := [.box (encSt22 x0), vecL (encI .u8) 1 5 s124, vecL (encI .i32) 1 21 y252]) (by kernel_rfl) ?_
   refine kEN ?_
   refine kX ?_
   obtain rfl := oi h260
   exact K.retV (H0 := []) [1] (.inr rfl) hFn hFH hFD (by kernel_rfl) (v1 := .tup [.vc 1, .int .i64 0, .int .i64 0]) (by kernel_rfl) (by kernel_rfl) (by kernel_rfl) (by decide) (by kernel_rfl) (by kernel_rfl) (by kernel_rfl) (by kernel_rfl) (by kernel_rfl)

def dec_Norm (x0 : Bool) (x1 : List Int) (x2 : Int) : Option (St28 × Int) :=
 (Option.bind (dec_figures x1) fun y1 => (bif (!y1) then (some ((⟨false, ([] : List Int), 0⟩ : St28), 1)) else (Option.bind (Option.bind (bif (decide (x2 < (-1099511627776))) then (some true) else (some (decide (x2 > 1099511627776)))) fun (s30 : Bool) => (bif s30 then (some (.inr ((⟨false, ([] : List Int), 0⟩ : St28), 11))) else (some (.inl ())))) (joinX fun (s22 : Unit) => (Option.bind (loopN (fun (s179 : Int) => (Option.bind (Option.bind (bif (decide (s179 < (x1.length : Int))) then (bif inR s179 x1.length then (some ((decide ((nth x1 s179) = 0)))) else none) else (some false)) fun (s296 : Bool) => (bif s296 then (some (.inl ())) else (some (.inr (.inr s179))))) (joinX fun (s287 : Unit) => (some (.inl (IntKind.wrap .i64 (s179 + 1))))))) big 0) fun (s174 : Int) => (Option.bind (loopN (fun (s448 : Int) => (Option.bind (Option.bind (bif (decide (s174 < s448)) then (bif inR (IntKind.wrap .i64 (s448 - 1)) x1.length then (some ((decide (((nth x1 (IntKind.wrap .i64 (s448 - 1)))) = 0)))) else none) else (some false)) fun (s565 : Bool) => (bif s565 then (some (.inl ())) else (some (.inr (.inr s448))))) (joinX fun (s556 : Unit) => (some (.inl (IntKind.wrap .i64 (s448 - 1))))))) big (x1.length : Int)) fun (s443 : Int) => (bif (decide (s174 = s443)) then (some ((⟨x0, ([] : List Int), 0⟩ : St28), 0)) else (bif inS s174 s443 x1.length then (Option.bind (slices_Clone (cut x1 s174 s443)) fun y584 => (Option.bind (dec_Right ((⟨x0, y584, (IntKind.wrap .i64 (((IntKind.wrap .i64 (x2 + (x1.length : Int)))) - s443))⟩ : St28))) fun y587 => (bif (!y587) then (some ((⟨false, ([] : List Int), 0⟩ : St28), 11)) else (some ((⟨x0, y584, (IntKind.wrap .i64 (((IntKind.wrap .i64 (x2 + (x1.length : Int)))) - s443))⟩ : St28), 0))))) else none))))))))
theorem dec_Norm_ok {x0 : Bool} {x1 : List Int} {x2 : Int} {r : St28 × Int} (h : dec_Norm x0 x1 x2 = some r) : SC Tryz.prog 49 [.bool x0, lsv (encI .u8) 1 x1, .int .i64 x2] [] (.tup [.agg (encSt28 r.1), .int .i64 r.2]) [] := by
 refine kFn (fn := Tryz.f49) (fun F hFn hFH hFD => ?_)
 unfold dec_Norm at h
 refine kSR ?_
 refine kC 2 [0,1,2,6,7] ?_
 refine kEN ?_
 refine kS ?_
 refine kSR ?_
 refine kC 1 [0,1,2,6,7,11] ?_
 obtain ⟨y1, hy2, h3⟩ := bindS h
 refine RJ.call0 (d := (some 12)) (f := 68) (args := [lsv (encI .u8) 1 x1]) (v := .bool y1) (tr2 := []) (by kernel_rfl) (by kernel_rfl) (.cons (Le.refl _) .nil) (dec_figures_ok hy2) (by kernel_rfl) ?_
 refine kC 1 [0,1,2,6,7,13] ?_
 refine kEN ?_
 refine J.caseB 13 (b := (!y1)) (by kernel_rfl) (fun hb4 => ?_) (fun hb4 => ?_)
 ·have h5 := condT hb4 h3
  refine kT ?_
  refine kSR ?_
  refine RJ.seg 3 [0, 1, 2, 6, 7] (L2 := [(0, .bool x0), (1, lsv (encI .u8) 1 x1), (2, .int .i64 x2), (6, .ptr 0 0), (7, .int .i64 1)]) (H2 := [.box [.bool false, .nl, .int .i64 0]]) (by kernel_rfl) ?_
  refine kEN ?_
  refine kX ?_
  refine PJ.passRet ?_
  obtain rfl := oi h5
  refine PJ.res (v1 := .tup [.agg [.bool false, .nl, .int .i64 0], .int .i64 1]) (Le.tup (.cons (Le.agg (.cons (Le.refl _) (.cons (Le.nl _) (.cons (Le.refl _) .nil)))) (.cons (Le.refl _) .nil))) ?_
  exact kZ hFn hFH hFD
 ·have h6 := condF hb4 h3
  refine kF ?_
  refine kK ?_
  refine PJ.next ?_
  obtain ⟨y23, hy24, h25⟩ := bindS h6
  refine K.cutX (by kernel_rfl) (fun (s22 : Unit) => ([(0, .bool x0), (1, lsv (encI .u8) 1 x1), (2, .int .i64 x2), (6, .ptr 0 0), (7, .int .i64 0)], [.box [.bool false, .nl, .int .i64 0]])) y23 ?_ (fun s22 hs => ?_)
  ·obtain ⟨s30, hy32, h34⟩ := bindS hy24
   refine K.cutN (by kernel_rfl) (fun (s30 : Bool) => ([(0, .bool x0), (1, lsv (encI .u8) 1 x1), (2, .int .i64 x2), (6, .ptr 0 0), (7, .int .i64 0), (20, .bool s30)], [.box [.bool false, .nl, .int .i64 0]])) s30 ?_ ?_
   ·refine kR ?_
    refine RJ.seg 3 [0, 1, 2, 6, 7, 17] (L2 := [(0, .bool x0), (1, lsv (encI .u8) 1 x1), (2, .int .i64 x2), (6, .ptr 0 0), (7, .int .i64 0), (17, .bool ((decide (x2 < (-1099511627776)))))]) (H2 := [.box [.bool false, .nl, .int .i64 0]]) (by kernel_rfl) ?_
    refine RJ.caseB 17 (b := (decide (x2 < (-1099511627776)))) (by kernel_rfl) (fun hb35 => ?_) (fun hb35 => ?_)
    ·have h36 := condT hb35 hy32
     refine kC 3 [0,1,2,6,7,20] ?_
     refine kE ?_
     obtain rfl := oi h36
     exact kN [0, 1, 2, 6, 7, 20]
    ·have h37 := condF hb35 hy32
     refine kC 3 [0,1,2,6,7,20] ?_
     refine kE ?_
     obtain rfl := oi h37
     exact kN [0, 1, 2, 6, 7, 20]
   ·refine J.caseB 20 (b := s30) (by kernel_rfl) (fun hb38 => ?_) (fun hb38 => ?_)
    ·have h39 := condT hb38 h34
     refine kT ?_
     refine kSR ?_
     refine kC 3 [0,1,2,6,7] ?_
     refine kEN ?_
     refine kX ?_
     obtain rfl := oi h39
     have h41 := joinX_inr h25
     refine PJ.cutXr (fun e => nomatch e) ?_
     obtain rfl := oi h41
     refine PJ.res (v1 := .tup [.agg [.bool false, .nl, .int .i64 0], .int .i64 11]) (Le.tup (.cons (Le.agg (.cons (Le.refl _) (.cons (Le.nl _) (.cons (Le.refl _) .nil)))) (.cons (Le.refl _) .nil))) ?_
     exact kZ hFn hFH hFD
    ·have h40 := condF hb38 h34
     refine kF ?_
     refine kK ?_
     obtain rfl := oi h40
     exact PJ.cutXl [0, 1, 2, 6, 7] (by kernel_rfl) (by kernel_rfl)
  ·subst hs
   have h26 := joinX_inl h25
   refine kSR ?_
   refine kC 4 [0,1,2,6,7,8,9] ?_
   refine kEN ?_
   obtain ⟨s174, hy176, h178⟩ := bindS h26
   refine K.cutN (by kernel_rfl) (fun (s174 : Int) => ([(0, .bool x0), (1, lsv (encI .u8) 1 x1), (2, .int .i64 x2), (6, .ptr 0 0), (7, .int .i64 0), (8, .int .i64 s174), (9, .int .i64 (x1.length : Int))], [.box [.bool false, .nl, .int .i64 0]])) s174 ?_ ?_
   ·refine K.block 0 (by kernel_rfl) ?_
    refine K.loop (by kernel_rfl) (fun (s179 : Int) => ([(0, .bool x0), (1, lsv (encI .u8) 1 x1), (2, .int .i64 x2), (6, .ptr 0 0), (7, .int .i64 0), (8, .int .i64 s179), (9, .int .i64 (x1.length : Int))], [.box [.bool false, .nl, .int .i64 0]])) hy176 [0, 1, 2, 6, 7, 8, 9] (by kernel_rfl) (by kernel_rfl) (fun s179 x267 hs266 => ?_)
    obtain ⟨y288, hy289, h290⟩ := bindS hs266
    refine K.cutX (by kernel_rfl) (fun (s287 : Unit) => ([(0, .bool x0), (1, lsv (encI .u8) 1 x1), (2, .int .i64 x2), (6, .ptr 0 0), (7, .int .i64 0), (8, .int .i64 s179), (9, .int .i64 (x1.length : Int))], [.box [.bool false, .nl, .int .i64 0]])) y288 ?_ (fun s287 hs => ?_)
    ·obtain ⟨s296, hy298, h300⟩ := bindS hy289
     refine K.cutN (by kernel_rfl) (fun (s296 : Bool) => ([(0, .bool x0), (1, lsv (encI .u8) 1 x1), (2, .int .i64 x2), (6, .ptr 0 0), (7, .int .i64 0), (8, .int .i64 s179), (9, .int .i64 (x1.length : Int)), (33, .bool s296)], [.box [.bool false, .nl, .int .i64 0]])) s296 ?_ ?_
     ·refine kR ?_
      refine kC 4 [0,1,2,6,7,8,9,27] ?_
      refine RJ.caseB 27 (b := (decide (s179 < (x1.length : Int)))) (by kernel_rfl) (fun hb301 => ?_) (fun hb301 => ?_)
      ·have h302 := condT hb301 hy298
       refine kC 2 [0,1,2,6,7,8,9,27,28,29] ?_
       obtain ⟨hm, h304⟩ := asrt h302
       refine RJ.rel (d := (some 30)) (ef := ⟨.ep (((x1.flatMap (encI .u8)).drop ((s179 : Int).toNat * 1)).take 1), [], []⟩) (ef' := ⟨.ep ((encI .u8) (nth x1 s179)), [], []⟩) (c := inR s179 x1.length) (tr2 := []) (H2 := [.box [.bool false, .nl, .int .i64 0]]) (by kernel_rfl) hm (fun hc => N.idx (encI_len .u8) hc) (by kernel_rfl) ?_
       refine kC 3 [0,1,2,6,7,8,9,33] ?_
       refine kE ?_
       obtain rfl := oi h304
       exact kN [0, 1, 2, 6, 7, 8, 9, 33]
      ·have h303 := condF hb301 hy298
       refine kC 6 [0,1,2,6,7,8,9,33] ?_
       refine kE ?_
       obtain rfl := oi h303
       exact kN [0, 1, 2, 6, 7, 8, 9, 33]
     ·refine J.caseB 33 (b := s296) (by kernel_rfl) (fun hb305 => ?_) (fun hb305 => ?_)
      ·have h306 := condT hb305 h300
       refine kT ?_
       refine kK ?_
       obtain rfl := oi h306
       exact PJ.cutXl [0, 1, 2, 6, 7, 8, 9] (by kernel_rfl) (by kernel_rfl)
      ·have h307 := condF hb305 h300
       refine kF ?_
       refine K.exit 0 (by kernel_rfl) ?_
       obtain rfl := oi h307
       have h308 := joinX_inr h290
       refine PJ.cutXr (fun e => nomatch e) ?_
       obtain rfl := oi h308
       refine PJ.loopOut (fun e => nomatch e) (fun he310 => ?_)
       have h309 := congrArg some he310
       refine PJ.blockOut ?_
       obtain rfl := oi h309
       exact kN [0, 1, 2, 6, 7, 8, 9]
    ·subst hs
     have h291 := joinX_inl h290
     refine K.block 1 (by kernel_rfl) ?_
     refine kR ?_
     refine kC 3 [0,1,2,6,7,8,9] ?_
     refine kE ?_
     refine PJ.blockNormal ?_
     obtain rfl := oi h291
     exact PJ.loopNext [0, 1, 2, 6, 7, 8, 9] (by kernel_rfl) (by kernel_rfl)
   ·obtain ⟨s443, hy445, h447⟩ := bindS h178
    refine K.cutN (by kernel_rfl) (fun (s443 : Int) => ([(0, .bool x0), (1, lsv (encI .u8) 1 x1), (2, .int .i64 x2), (6, .ptr 0 0), (7, .int .i64 0), (8, .int .i64 s174), (9, .int .i64 s443)], [.box [.bool false, .nl, .int .i64 0]])) s443 ?_ ?_
    ·refine K.block 2 (by kernel_rfl) ?_
     refine K.loop (by kernel_rfl) (fun (s448 : Int) => ([(0, .bool x0), (1, lsv (encI .u8) 1 x1), (2, .int .i64 x2), (6, .ptr 0 0), (7, .int .i64 0), (8, .int .i64 s174), (9, .int .i64 s448)], [.box [.bool false, .nl, .int .i64 0]])) hy445 [0, 1, 2, 6, 7, 8, 9] (by kernel_rfl) (by kernel_rfl) (fun s448 x536 hs535 => ?_)
     obtain ⟨y557, hy558, h559⟩ := bindS hs535
     refine K.cutX (by kernel_rfl) (fun (s556 : Unit) => ([(0, .bool x0), (1, lsv (encI .u8) 1 x1), (2, .int .i64 x2), (6, .ptr 0 0), (7, .int .i64 0), (8, .int .i64 s174), (9, .int .i64 s448)], [.box [.bool false, .nl, .int .i64 0]])) y557 ?_ (fun s556 hs => ?_)
     ·obtain ⟨s565, hy567, h569⟩ := bindS hy558
      refine K.cutN (by kernel_rfl) (fun (s565 : Bool) => ([(0, .bool x0), (1, lsv (encI .u8) 1 x1), (2, .int .i64 x2), (6, .ptr 0 0), (7, .int .i64 0), (8, .int .i64 s174), (9, .int .i64 s448), (46, .bool s565)], [.box [.bool false, .nl, .int .i64 0]])) s565 ?_ ?_
      ·refine kR ?_
       refine kC 4 [0,1,2,6,7,8,9,39] ?_
       refine RJ.caseB 39 (b := (decide (s174 < s448))) (by kernel_rfl) (fun hb570 => ?_) (fun hb570 => ?_)
       ·have h571 := condT hb570 hy567
        refine kC 3 [0,1,2,6,7,8,9,39,40,42] ?_
        obtain ⟨hm, h573⟩ := asrt h571
        refine RJ.rel (d := (some 43)) (ef := ⟨.ep (((x1.flatMap (encI .u8)).drop (((IntKind.wrap .i64 (s448 - 1)) : Int).toNat * 1)).take 1), [], []⟩) (ef' := ⟨.ep ((encI .u8) (nth x1 (IntKind.wrap .i64 (s448 - 1)))), [], []⟩) (c := inR (IntKind.wrap .i64 (s448 - 1)) x1.length) (tr2 := []) (H2 := [.box [.bool false, .nl, .int .i64 0]]) (by kernel_rfl) hm (fun hc => N.idx (encI_len .u8) hc) (by kernel_rfl) ?_
        refine kC 3 [0,1,2,6,7,8,9,46] ?_
        refine kE ?_
        obtain rfl := oi h573
        exact kN [0, 1, 2, 6, 7, 8, 9, 46]
       ·have h572 := condF hb570 hy567
        refine kC 7 [0,1,2,6,7,8,9,46] ?_
        refine kE ?_
        obtain rfl := oi h572
        exact kN [0, 1, 2, 6, 7, 8, 9, 46]
      ·refine J.caseB 46 (b := s565) (by kernel_rfl) (fun hb574 => ?_) (fun hb574 => ?_)
       ·have h575 := condT hb574 h569
        refine kT ?_
        refine kK ?_
        obtain rfl := oi h575
        exact PJ.cutXl [0, 1, 2, 6, 7, 8, 9] (by kernel_rfl) (by kernel_rfl)
       ·have h576 := condF hb574 h569
        refine kF ?_
        refine K.exit 2 (by kernel_rfl) ?_
        obtain rfl := oi h576
        have h577 := joinX_inr h559
        refine PJ.cutXr (fun e => nomatch e) ?_
        obtain rfl := oi h577
        refine PJ.loopOut (fun e => nomatch e) (fun he579 => ?_)
        have h578 := congrArg some he579
        refine PJ.blockOut ?_
        obtain rfl := oi h578
        exact kN [0, 1, 2, 6, 7, 8, 9]
     ·subst hs
      have h560 := joinX_inl h559
      refine K.block 3 (by kernel_rfl) ?_
      refine kR ?_
      refine kC 3 [0,1,2,6,7,8,9] ?_
      refine kE ?_
      refine PJ.blockNormal ?_
      obtain rfl := oi h560
      exact PJ.loopNext [0, 1, 2, 6, 7, 8, 9] (by kernel_rfl) (by kernel_rfl)
    ·refine kS ?_
     refine kSR ?_
     refine kC 3 [0,1,2,6,7,8,9,51] ?_
     refine kEN ?_
     refine J.caseB 51 (b := (decide (s174 = s443))) (by kernel_rfl) (fun hb580 => ?_) (fun hb580 => ?_)
     ·have h581 := condT hb580 h447
      refine kT ?_
      refine kSR ?_
      refine kC 4 [0,1,2,6,7,8,9] ?_
      refine kEN ?_
      refine kX ?_
      refine PJ.passRet ?_
      obtain rfl := oi h581
      refine PJ.res (v1 := .tup [.agg [.bool x0, .nl, .int .i64 0], .int .i64 0]) (Le.tup (.cons (Le.agg (.cons (Le.refl _) (.cons (Le.nl _) (.cons (Le.refl _) .nil)))) (.cons (Le.refl _) .nil))) ?_
      exact kZ hFn hFH hFD
     ·have h582 := condF hb580 h447
      refine kF ?_
      refine kK ?_
      refine PJ.next ?_
      refine kSR ?_
      refine kC 4 [1,2,6,7,9,54,55,56,57] ?_
      obtain ⟨hm, h583⟩ := asrt h582
      refine RJ.rel (d := (some 58)) (ef := ⟨.lst ((s443 : Int).toNat - (s174 : Int).toNat) 1 (((x1.flatMap (encI .u8)).take ((s443 : Int).toNat * 1)).drop ((s174 : Int).toNat * 1)), [], []⟩) (ef' := ⟨.lst (cut x1 s174 s443).length 1 ((cut x1 s174 s443).flatMap (encI .u8)), [], []⟩) (c := inS s174 s443 x1.length) (tr2 := []) (H2 := [.box [.bool false, .nl, .int .i64 0]]) (by kernel_rfl) hm (fun hc => N.slice (encI_len .u8) hc) (by kernel_rfl) ?_
      obtain ⟨y584, hy585, h586⟩ := bindS h583
      refine RJ.call0 (d := (some 59)) (f := 79) (args := [lsv (encI .u8) 1 (cut x1 s174 s443)]) (v := lsv (encI .u8) 1 y584) (tr2 := []) (by kernel_rfl) (by kernel_rfl) (.cons (Le.refl _) .nil) (slices_Clone_ok hy585) (by kernel_rfl) ?_
      refine kC 9 [6,7,10] ?_
      refine kEN ?_
      refine kS ?_
      refine kSR ?_
      refine RJ.seg 1 [6, 7, 10, 67] (L2 := [(6, .ptr 0 0), (7, .int .i64 0), (10, .ptr 1 0), (67, .agg [.bool x0, lsv (encI .u8) 1 y584, .int .i64 ((IntKind.wrap .i64 (((IntKind.wrap .i64 (x2 + (x1.length : Int)))) - s443)))])]) (H2 := [.box [.bool false, .nl, .int .i64 0], .box [.bool x0, lsv (encI .u8) 1 y584, .int .i64 ((IntKind.wrap .i64 (((IntKind.wrap .i64 (x2 + (x1.length : Int)))) - s443)))]]) (by kernel_rfl) ?_
      obtain ⟨y587, hy588, h589⟩ := bindS h586
      refine RJ.call0 (d := (some 68)) (f := 32) (args := [.agg [.bool x0, lsv (encI .u8) 1 y584, .int .i64 ((IntKind.wrap .i64 (((IntKind.wrap .i64 (x2 + (x1.length : Int)))) - s443)))]]) (v := .bool y587) (tr2 := []) (by kernel_rfl) (by kernel_rfl) (.cons (Le.refl _) .nil) (dec_Right_ok hy588) (by kernel_rfl) ?_
      refine kC 1 [6,7,10,69] ?_
      refine kEN ?_
      refine J.caseB 69 (b := (!y587)) (by kernel_rfl) (fun hb590 => ?_) (fun hb590 => ?_)
      ·have h591 := condT hb590 h589
       refine kT ?_
       refine kSR ?_
       refine kC 3 [6,7,10] ?_
       refine kEN ?_
       refine kX ?_
       refine PJ.passRet ?_
       obtain rfl := oi h591
       refine PJ.res (v1 := .tup [.agg [.bool false, .nl, .int .i64 0], .int .i64 11]) (Le.tup (.cons (Le.agg (.cons (Le.refl _) (.cons (Le.nl _) (.cons (Le.refl _) .nil)))) (.cons (Le.refl _) .nil))) ?_
       exact kZ hFn hFH hFD
      ·have h592 := condF hb590 h589
       refine kF ?_
       refine kK ?_
       refine PJ.next ?_
       refine kSR ?_
       refine kC 3 [6,7] ?_
       refine kEN ?_
       refine kX ?_
       obtain rfl := oi h592
       exact kZ hFn hFH hFD

def shape_Read (x0 : St22) (x1 : St25) (x2 : List Int) : Option (St28 × Int) :=
 (Option.bind (shape_cutPower x0 x1 x2) fun y1 => (bif (!y1.2.2) then (some ((⟨false, ([] : List Int), 0⟩ : St28), 10)) else (Option.bind (shape_cutPart x0 y1.1) fun y7 => (bif (!y7.2.2) then (some ((⟨false, ([] : List Int), 0⟩ : St28), 10)) else (Option.bind (sym_Ungrouped x0 y7.1 x1.G1_ x1.G2_) fun y13 => (bif (decide (¬ y13.2.2 = 0)) then (some ((⟨false, ([] : List Int), 0⟩ : St28), 10)) else (bif room (y13.1.length + y7.2.1.length) then (Option.bind (dec_Norm false (y13.1 ++ y7.2.1) ((IntKind.wrap .i64 (y1.2.1 - (y7.2.1.length : Int))))) fun y20 => (bif (decide (¬ y20.2 = 0)) then (some ((⟨false, ([] : List Int), 0⟩ : St28), 10)) else (some (y20.1, 0)))) else none)))))))
theorem shape_Read_ok {x0 : St22} {x1 : St25} {x2 : List Int} {r : St28 × Int} (h : shape_Read x0 x1 x2 = some r) : SC Tryz.prog 18 [.agg (encSt22 x0), .agg (encSt25 x1), lsv (encI .i32) 1 x2] [] (.tup [.agg (encSt28 r.1), .int .i64 r.2]) [] := by
 refine kFn (fn := Tryz.f18) (fun F hFn hFH hFD => ?_)
 unfold shape_Read at h
 refine kSR ?_
 refine kC 4 [2,3,4,6,7] ?_
 refine kEN ?_
 refine kSR ?_
 refine kC 3 [2,3,4,6,7,16,17,18] ?_
 obtain ⟨y1, hy2, h3⟩ := bindS h
 refine RJ.call0 (d := (some 19)) (f := 46) (args := [.agg (encSt22 x0), .agg (encSt25 x1), lsv (encI .i32) 1 x2]) (v := .tup [lsv (encI .i32) 1 y1.1, .int .i64 y1.2.1, .bool y1.2.2]) (tr2 := []) (by kernel_rfl) (by kernel_rfl) (.cons (Le.refl _) (.cons (Le.refl _) (.cons (Le.refl _) .nil))) (shape_cutPower_ok hy2) (by kernel_rfl) ?_
 refine kC 7 [2,3,4,6,7,8,9] ?_
 refine kEN ?_
 refine kS ?_
 refine kSR ?_
 refine RJ.seg 2 [2, 3, 4, 6, 7, 8, 9, 24] (L2 := [(2, lsv (encI .i32) 1 y1.1), (3, .ptr 0 0), (4, .ptr 1 0), (6, .ptr 2 0), (7, .int .i64 0), (8, .int .i64 y1.2.1), (9, .bool y1.2.2), (24, .bool (!y1.2.2))]) (H2 := [.box (encSt22 x0), .box (encSt25 x1), .box [.bool false, .nl, .int .i64 0]]) (by kernel_rfl) ?_
 refine kEN ?_
 refine J.caseB 24 (b := (!y1.2.2)) (by kernel_rfl) (fun hb4 => ?_) (fun hb4 => ?_)
 ·have h5 := condT hb4 h3
  refine kT ?_
  refine kSR ?_
  refine kC 3 [2,3,4,6,7,8,9] ?_
  refine kEN ?_
  refine kX ?_
  refine PJ.passRet ?_
  obtain rfl := oi h5
  refine PJ.res (v1 := .tup [.agg [.bool false, .nl, .int .i64 0], .int .i64 10]) (Le.tup (.cons (Le.agg (.cons (Le.refl _) (.cons (Le.nl _) (.cons (Le.refl _) .nil)))) (.cons (Le.refl _) .nil))) ?_
  exact kZ hFn hFH hFD
 ·have h6 := condF hb4 h3
  refine kF ?_
  refine kK ?_
  refine PJ.next ?_
  refine kSR ?_
  refine kC 2 [2,3,4,6,7,8,9,27,28] ?_
  obtain ⟨y7, hy8, h9⟩ := bindS h6
  refine RJ.call0 (d := (some 29)) (f := 47) (args := [.agg (encSt22 x0), lsv (encI .i32) 1 y1.1]) (v := .tup [lsv (encI .i32) 1 y7.1, lsv (encI .u8) 1 y7.2.1, .bool y7.2.2]) (tr2 := []) (by kernel_rfl) (by kernel_rfl) (.cons (Le.refl _) (.cons (Le.refl _) .nil)) (shape_cutPart_ok hy8) (by kernel_rfl) ?_
  refine kC 7 [2,3,4,6,7,8,9,10] ?_
  refine kEN ?_
  refine kS ?_
  refine kSR ?_
  refine kC 2 [2,3,4,6,7,8,10,34] ?_
  refine kEN ?_
  refine J.caseB 34 (b := (!y7.2.2)) (by kernel_rfl) (fun hb10 => ?_) (fun hb10 => ?_)
  ·have h11 := condT hb10 h9
   refine kT ?_
   refine kSR ?_
   refine RJ.seg 3 [2, 3, 4, 6, 7, 8, 10] (L2 := [(2, lsv (encI .i32) 1 y7.1), (3, .ptr 0 0), (4, .ptr 1 0), (6, .ptr 2 0), (7, .int .i64 10), (8, .int .i64 y1.2.1), (10, lsv (encI .u8) 1 y7.2.1)]) (H2 := [.box (encSt22 x0), .box (encSt25 x1), .box [.bool false, .nl, .int .i64 0]]) (by kernel_rfl) ?_
   refine kEN ?_
   refine kX ?_
   refine PJ.passRet ?_
   obtain rfl := oi h11
   refine PJ.res (v1 := .tup [.agg [.bool false, .nl, .int .i64 0], .int .i64 10]) (Le.tup (.cons (Le.agg (.cons (Le.refl _) (.cons (Le.nl _) (.cons (Le.refl _) .nil)))) (.cons (Le.refl _) .nil))) ?_
   exact kZ hFn hFH hFD
  ·have h12 := condF hb10 h9
   refine kF ?_
   refine kK ?_
   refine PJ.next ?_
   refine kSR ?_
   refine RJ.seg 6 [6, 7, 8, 10, 37, 38, 40, 42] (L2 := [(6, .ptr 2 0), (7, .int .i64 0), (8, .int .i64 y1.2.1), (10, lsv (encI .u8) 1 y7.2.1), (37, .agg (encSt22 x0)), (38, lsv (encI .i32) 1 y7.1), (40, .int .i64 x1.G1_), (42, .int .i64 x1.G2_)]) (H2 := [.box (encSt22 x0), .box (encSt25 x1), .box [.bool false, .nl, .int .i64 0]]) (by kernel_rfl) ?_
   obtain ⟨y13, hy14, h15⟩ := bindS h12
   refine RJ.callG (d := (some 43)) (f := 48) (args := [.agg (encSt22 x0), lsv (encI .i32) 1 y7.1, .int .i64 x1.G1_, .int .i64 x1.G2_]) (args0 := [.agg (encSt22 x0), lsv (encI .i32) 1 y7.1, .int .i64 x1.G1_, .int .i64 x1.G2_]) (v0 := .tup [.vc 0, .int .i64 y13.2.1, .int .i64 y13.2.2]) (v := .tup [.vc 3, .int .i64 y13.2.1, .int .i64 y13.2.2]) (tr2 := []) (H0 := []) (H0' := [vecL (encI .u8) 1 5 y13.1]) (H2 := [.box (encSt22 x0), .box (encSt25 x1), .box [.bool false, .nl, .int .i64 0], vecL (encI .u8) 1 5 y13.1]) [] (by kernel_rfl) (by kernel_rfl) (by kernel_rfl) (by kernel_rfl) (by decide) (by kernel_rfl) (by kernel_rfl) (by kernel_rfl) (.cons (Le.refl _) (.cons (Le.refl _) (.cons (Le.refl _) (.cons (Le.refl _) .nil)))) (sym_Ungrouped_ok_o hy14) (by kernel_rfl) (by kernel_rfl) (by kernel_rfl) ?_
   refine kC 7 [6,7,8,10,11,13] ?_
   refine kEN ?_
   refine kS ?_
   refine kSR ?_
   refine kC 2 [6,7,8,10,11,13,48] ?_
   refine kEN ?_
   refine J.caseB 48 (b := (decide (¬ y13.2.2 = 0))) (by kernel_rfl) (fun hb16 => ?_) (fun hb16 => ?_)
   ·have h17 := condT hb16 h15
    refine kT ?_
    refine kSR ?_
    refine kC 3 [6,7,8,10,11,13] ?_
    refine kEN ?_
    refine kX ?_
    refine PJ.passRet ?_
    obtain rfl := oi h17
    refine PJ.res (v1 := .tup [.agg [.bool false, .nl, .int .i64 0], .int .i64 10]) (Le.tup (.cons (Le.agg (.cons (Le.refl _) (.cons (Le.nl _) (.cons (Le.refl _) .nil)))) (.cons (Le.refl _) .nil))) ?_
    exact kZ hFn hFH hFD
   ·have h18 := condF hb16 h15
    refine kF ?_
    refine kK ?_
    refine PJ.next ?_
    refine kSR ?_
    refine kC 2 [6,7,8,10,13,51,52] ?_
    obtain ⟨hm, h19⟩ := asrt h18
    refine RJ.rel (d := (some 53)) (ef := ⟨.vc 4, [3], [(3, .gone), (4, .vec (y13.1.length + y7.2.1.length) 1 5 (y13.1.flatMap (encI .u8) ++ y7.2.1.flatMap (encI .u8)))]⟩) (ef' := ⟨.vc 4, [3], [(3, .gone), (4, vecL (encI .u8) 1 5 (y13.1 ++ y7.2.1))]⟩) (c := roomB (y13.1.length + y7.2.1.length)) (tr2 := []) (H2 := [.box (encSt22 x0), .box (encSt25 x1), .box [.bool false, .nl, .int .i64 0], .gone, vecL (encI .u8) 1 5 (y13.1 ++ y7.2.1)]) (by kernel_rfl) (roomB_of_room hm) (fun hc => N.app) (by kernel_rfl) ?_
    refine RJ.seg 4 [6, 7, 13, 53, 57] (L2 := [(6, .ptr 2 0), (7, .int .i64 0), (13, .int .i64 y13.2.2), (53, .vc 4), (57, .int .i64 ((IntKind.wrap .i64 (y1.2.1 - (y7.2.1.length : Int)))))]) (H2 := [.box (encSt22 x0), .box (encSt25 x1), .box [.bool false, .nl, .int .i64 0], .gone, vecL (encI .u8) 1 5 (y13.1 ++ y7.2.1)]) (by kernel_rfl) ?_
    obtain ⟨y20, hy21, h22⟩ := bindS h19
    refine RJ.wk (Wk.freeze 4 (n := (y13.1 ++ y7.2.1).length) (k := 1) (e := 5) (cs := (y13.1 ++ y7.2.1).flatMap (encI .u8)) (by kernel_rfl)) ?_
    refine RJ.call0 (d := (some 58)) (f := 49) (args := [.bool false, lsv (encI .u8) 1 (y13.1 ++ y7.2.1), .int .i64 ((IntKind.wrap .i64 (y1.2.1 - (y7.2.1.length : Int))))]) (v := .tup [.agg (encSt28 y20.1), .int .i64 y20.2]) (tr2 := []) (by kernel_rfl) (by kernel_rfl) (.cons (Le.refl _) (.cons (Le.refl _) (.cons (Le.refl _) .nil))) (dec_Norm_ok hy21) (by kernel_rfl) ?_
    refine kC 6 [6,7,13,14] ?_
    refine kEN ?_
    refine kS ?_
    refine kSR ?_
    refine kC 2 [6,7,14,62] ?_
    refine kEN ?_
    refine J.caseB 62 (b := (decide (¬ y20.2 = 0))) (by kernel_rfl) (fun hb23 => ?_) (fun hb23 => ?_)
    ·have h24 := condT hb23 h22
     refine kT ?_
     refine kSR ?_
     refine kC 3 [6,7,14] ?_
     refine kEN ?_
     refine kX ?_
     refine PJ.passRet ?_
     obtain rfl := oi h24
     refine PJ.res (v1 := .tup [.agg [.bool false, .nl, .int .i64 0], .int .i64 10]) (Le.tup (.cons (Le.agg (.cons (Le.refl _) (.cons (Le.nl _) (.cons (Le.refl _) .nil)))) (.cons (Le.refl _) .nil))) ?_
     exact kZ hFn hFH hFD
    ·have h25 := condF hb23 h22
     refine kF ?_
     refine kK ?_
     refine PJ.next ?_
     refine kSR ?_
     refine kC 3 [6,7] ?_
     refine kEN ?_
     refine kX ?_
     obtain rfl := oi h25
     exact kZ hFn hFH hFD

def round_Is (x0 : Int) : Option (Bool) :=
 (Option.bind (bif (decide (x0 ≥ 0)) then (some (decide (x0 ≤ 7))) else (some false)) fun (s4 : Bool) => (some s4))
theorem round_Is_ok {x0 : Int} {r : Bool} (h : round_Is x0 = some r) : SC Tryz.prog 64 [.int .i64 x0] [] (.bool r) [] := by
 refine kFn (fn := Tryz.f64) (fun F hFn hFH hFD => ?_)
 unfold round_Is at h
 refine kSR ?_
 refine kC 1 [0,2] ?_
 refine kEN ?_
 obtain ⟨s4, hy6, h8⟩ := bindS h
 refine K.cutN (by kernel_rfl) (fun (s4 : Bool) => ([(2, .bool s4)], [])) s4 ?_ ?_
 ·refine kR ?_
  refine kC 3 [0,2,5] ?_
  refine RJ.caseB 5 (b := (decide (x0 ≥ 0))) (by kernel_rfl) (fun hb9 => ?_) (fun hb9 => ?_)
  ·have h10 := condT hb9 hy6
   refine kC 4 [2] ?_
   refine kE ?_
   obtain rfl := oi h10
   exact kN [2]
  ·have h11 := condF hb9 hy6
   refine kC 4 [2] ?_
   refine kE ?_
   obtain rfl := oi h11
   exact kN [2]
 ·refine kX ?_
  obtain rfl := oi h8
  exact kZ hFn hFH hFD

def round_unit (x0 : Int) (x1 : Int) : Option (Bool) :=
 (Option.bind (bif (decide (x0 ≥ 1)) then (bif (decide (x0 ≤ 1000000000)) then (bif (decide (x1 ≥ (-1000))) then (some (decide (x1 ≤ 1000))) else (some false)) else (some false)) else (some false)) fun (s10 : Bool) => (some s10))
theorem round_unit_ok {x0 : Int} {x1 : Int} {r : Bool} (h : round_unit x0 x1 = some r) : SC Tryz.prog 89 [.int .i64 x0, .int .i64 x1] [] (.bool r) [] := by
 refine kFn (fn := Tryz.f89) (fun F hFn hFH hFD => ?_)
 unfold round_unit at h
 refine kSR ?_
 refine kC 1 [0,1,4] ?_
 refine kEN ?_
 obtain ⟨s10, hy12, h14⟩ := bindS h
 refine K.cutN (by kernel_rfl) (fun (s10 : Bool) => ([(4, .bool s10)], [])) s10 ?_ ?_
 ·refine kR ?_
  refine kC 3 [0,1,4,7] ?_
  refine RJ.caseB 7 (b := (decide (x0 ≥ 1))) (by kernel_rfl) (fun hb15 => ?_) (fun hb15 => ?_)
  ·have h16 := condT hb15 hy12
   refine kC 4 [1,4,11] ?_
   refine RJ.caseB 11 (b := (decide (x0 ≤ 1000000000))) (by kernel_rfl) (fun hb18 => ?_) (fun hb18 => ?_)
   ·have h19 := condT hb18 h16
    refine RJ.seg 4 [1, 4, 15] (L2 := [(1, .int .i64 x1), (4, .bool false), (15, .bool ((decide (x1 ≥ (-1000)))))]) (H2 := []) (by kernel_rfl) ?_
    refine RJ.caseB 15 (b := (decide (x1 ≥ (-1000)))) (by kernel_rfl) (fun hb21 => ?_) (fun hb21 => ?_)
    ·have h22 := condT hb21 h19
     refine kC 4 [4] ?_
     refine kE ?_
     obtain rfl := oi h22
     exact kN [4]
    ·have h23 := condF hb21 h19
     refine kC 4 [4] ?_
     refine kE ?_
     obtain rfl := oi h23
     exact kN [4]
   ·have h20 := condF hb18 h16
    refine RJ.seg 8 [4] (L2 := [(4, .bool false)]) (H2 := []) (by kernel_rfl) ?_
    refine kE ?_
    obtain rfl := oi h20
    exact kN [4]
  ·have h17 := condF hb15 hy12
   refine kC 12 [4] ?_
   refine kE ?_
   obtain rfl := oi h17
   exact kN [4]
 ·refine kX ?_
  obtain rfl := oi h14
  exact kZ hFn hFH hFD

def round_split (x0 : St28) (x1 : Int) (x2 : Int) : Option ((List Int) × Int) :=
 (Option.bind (Option.bind (dec_Mag x0) fun y45 => (loopN (fun (s48 : Int × Int × (List Int)) => (bif (decide (s48.2.1 ≥ x2)) then (Option.bind (dec_At x0 s48.2.1) fun y76 => (bif nz x1 then (bif room (s48.2.2.length + (([(IntKind.wrap .u8 ((IntKind.wrap .i64 (Int.tdiv ((IntKind.wrap .i64 ((IntKind.wrap .i64 (s48.1 * 10)) + (IntKind.wrap .i64 y76)))) x1))))] : List Int)).length) then (bif nz x1 then (some (.inl ((Int.tmod ((IntKind.wrap .i64 ((IntKind.wrap .i64 (s48.1 * 10)) + (IntKind.wrap .i64 y76)))) x1), (IntKind.wrap .i64 (s48.2.1 - 1)), (s48.2.2 ++ (([(IntKind.wrap .u8 ((IntKind.wrap .i64 (Int.tdiv ((IntKind.wrap .i64 ((IntKind.wrap .i64 (s48.1 * 10)) + (IntKind.wrap .i64 y76)))) x1))))] : List Int)))))) else none) else none) else none)) else (some (.inr (s48.1, s48.2.2))))) big (0, y45, ([] : List Int)))) fun (s40 : Int × (List Int)) => (some (s40.2, s40.1)))
theorem round_split_ok_o {x0 : St28} {x1 : Int} {x2 : Int} {r : (List Int) × Int} (h : round_split x0 x1 x2 = some r) : SC Tryz.prog 90 [.agg (encSt28 x0), .int .i64 x1, .int .i64 x2] [] (.tup [.vc 0, .int .i64 r.2]) [vecL (encI .u8) 1 5 r.1] := by
 refine kFn (fn := Tryz.f90) (fun F hFn hFH hFD => ?_)
 unfold round_split at h
 refine kSR ?_
 refine kC 3 [1,2,3,6,7] ?_
 refine kEN ?_
 refine kSR ?_
 refine kC 1 [1,2,3,6,7,8] ?_
 refine kEN ?_
 refine kSR ?_
 refine kC 1 [1,2,3,6,7,8,9] ?_
 refine kEN ?_
 obtain ⟨s40, hy42, h44⟩ := bindS h
 refine K.cutN (by kernel_rfl) (fun (s40 : Int × (List Int)) => ([(6, .nl), (7, .int .i64 0), (8, .vc 0), (9, .int .i64 s40.1)], [vecL (encI .u8) 1 5 s40.2])) s40 ?_ ?_
 ·refine kSR ?_
  refine RJ.seg 1 [1, 2, 3, 6, 7, 8, 9, 11] (L2 := [(1, .int .i64 x1), (2, .int .i64 x2), (3, .ptr 0 0), (6, .nl), (7, .int .i64 0), (8, .nl), (9, .int .i64 0), (11, .agg (encSt28 x0))]) (H2 := [.box (encSt28 x0)]) (by kernel_rfl) ?_
  obtain ⟨y45, hy46, h47⟩ := bindS hy42
  refine RJ.call0 (d := (some 12)) (f := 65) (args := [.agg (encSt28 x0)]) (v := .int .i64 y45) (tr2 := []) (by kernel_rfl) (by kernel_rfl) (.cons (Le.refl _) .nil) (dec_Mag_ok hy46) (by kernel_rfl) ?_
  refine kC 1 [1,2,3,6,7,8,9,10] ?_
  refine kEN ?_
  refine K.block 0 (by kernel_rfl) ?_
  refine J.wk (Wk.viv 8 1 5 (by kernel_rfl)) ?_
  refine K.loop (by kernel_rfl) (fun (s48 : Int × Int × (List Int)) => ([(1, .int .i64 x1), (2, .int .i64 x2), (3, .ptr 0 0), (6, .nl), (7, .int .i64 0), (8, .vc 1), (9, .int .i64 s48.1), (10, .int .i64 s48.2.1)], [.box (encSt28 x0), vecL (encI .u8) 1 5 s48.2.2])) h47 [1, 2, 3, 6, 7, 8, 9, 10] (by kernel_rfl) (by kernel_rfl) (fun s48 x72 hs71 => ?_)
  refine kS ?_
  refine kSR ?_
  refine kC 3 [1,2,3,6,7,8,9,10,15] ?_
  refine kEN ?_
  refine J.caseB 15 (b := (decide (s48.2.1 ≥ x2))) (by kernel_rfl) (fun hb73 => ?_) (fun hb73 => ?_)
  ·have h74 := condT hb73 hs71
   refine kT ?_
   refine kK ?_
   refine PJ.next ?_
   refine kS ?_
   refine K.block 1 (by kernel_rfl) ?_
   refine kSR ?_
   refine kC 4 [1,2,3,6,7,8,9,10,19,20,21] ?_
   obtain ⟨y76, hy77, h78⟩ := bindS h74
   refine RJ.call0 (d := (some 22)) (f := 35) (args := [.agg (encSt28 x0), .int .i64 s48.2.1]) (v := .int .u8 y76) (tr2 := []) (by kernel_rfl) (by kernel_rfl) (.cons (Le.refl _) (.cons (Le.refl _) .nil)) (dec_At_ok hy77) (by kernel_rfl) ?_
   refine kC 3 [1,2,3,6,7,8,9,10] ?_
   refine kEN ?_
   refine kSR ?_
   refine RJ.seg 3 [1, 2, 3, 6, 7, 8, 9, 10, 25, 26, 27] (L2 := [(1, .int .i64 x1), (2, .int .i64 x2), (3, .ptr 0 0), (6, .nl), (7, .int .i64 0), (8, .vc 1), (9, .int .i64 ((IntKind.wrap .i64 ((IntKind.wrap .i64 (s48.1 * 10)) + (IntKind.wrap .i64 y76))))), (10, .int .i64 s48.2.1), (25, .vc 1), (26, .int .i64 ((IntKind.wrap .i64 ((IntKind.wrap .i64 (s48.1 * 10)) + (IntKind.wrap .i64 y76))))), (27, .int .i64 x1)]) (H2 := [.box (encSt28 x0), vecL (encI .u8) 1 5 s48.2.2]) (by kernel_rfl) ?_
   obtain ⟨hm, h79⟩ := asrt h78
   refine RJ.rel (d := (some 28)) (ef := ⟨.int .i64 (IntKind.wrap .i64 (Int.tdiv ((IntKind.wrap .i64 ((IntKind.wrap .i64 (s48.1 * 10)) + (IntKind.wrap .i64 y76)))) x1)), [], []⟩) (ef' := ⟨.int .i64 (IntKind.wrap .i64 (Int.tdiv ((IntKind.wrap .i64 ((IntKind.wrap .i64 (s48.1 * 10)) + (IntKind.wrap .i64 y76)))) x1)), [], []⟩) (c := nz x1) (tr2 := []) (H2 := [.box (encSt28 x0), vecL (encI .u8) 1 5 s48.2.2]) (by kernel_rfl) hm (fun hc => rfl) (by kernel_rfl) ?_
   refine kC 2 [1,2,3,6,7,8,9,10,25,30] ?_
   obtain ⟨hm, h80⟩ := asrt h79
   refine RJ.rel (d := (some 31)) (ef := ⟨.vc 3, [1, 2], [(1, .gone), (3, .vec (s48.2.2.length + (([(IntKind.wrap .u8 ((IntKind.wrap .i64 (Int.tdiv ((IntKind.wrap .i64 ((IntKind.wrap .i64 (s48.1 * 10)) + (IntKind.wrap .i64 y76)))) x1))))] : List Int)).length) 1 5 (s48.2.2.flatMap (encI .u8) ++ (([(IntKind.wrap .u8 ((IntKind.wrap .i64 (Int.tdiv ((IntKind.wrap .i64 ((IntKind.wrap .i64 (s48.1 * 10)) + (IntKind.wrap .i64 y76)))) x1))))] : List Int)).flatMap (encI .u8)))]⟩) (ef' := ⟨.vc 3, [1, 2], [(1, .gone), (3, vecL (encI .u8) 1 5 (s48.2.2 ++ (([(IntKind.wrap .u8 ((IntKind.wrap .i64 (Int.tdiv ((IntKind.wrap .i64 ((IntKind.wrap .i64 (s48.1 * 10)) + (IntKind.wrap .i64 y76)))) x1))))] : List Int))))]⟩) (c := roomB (s48.2.2.length + (([(IntKind.wrap .u8 ((IntKind.wrap .i64 (Int.tdiv ((IntKind.wrap .i64 ((IntKind.wrap .i64 (s48.1 * 10)) + (IntKind.wrap .i64 y76)))) x1))))] : List Int)).length)) (tr2 := []) (H2 := [.box (encSt28 x0), .gone, vecL (encI .u8) 1 5 (([(IntKind.wrap .u8 ((IntKind.wrap .i64 (Int.tdiv ((IntKind.wrap .i64 ((IntKind.wrap .i64 (s48.1 * 10)) + (IntKind.wrap .i64 y76)))) x1))))] : List Int)), vecL (encI .u8) 1 5 ((s48.2.2 ++ (([(IntKind.wrap .u8 ((IntKind.wrap .i64 (Int.tdiv ((IntKind.wrap .i64 ((IntKind.wrap .i64 (s48.1 * 10)) + (IntKind.wrap .i64 y76)))) x1))))] : List Int))))]) (by kernel_rfl) (roomB_of_room hm) (fun hc => N.app) (by kernel_rfl) ?_
   refine kC 1 [1,2,3,6,7,8,9,10] ?_
   refine kEN ?_
   refine kR ?_
   refine kC 2 [1,2,3,6,7,8,9,10,32,33] ?_
   obtain ⟨hm, h81⟩ := asrt h80
   refine RJ.rel (d := (some 34)) (ef := ⟨.int .i64 (Int.tmod ((IntKind.wrap .i64 ((IntKind.wrap .i64 (s48.1 * 10)) + (IntKind.wrap .i64 y76)))) x1), [], []⟩) (ef' := ⟨.int .i64 (Int.tmod ((IntKind.wrap .i64 ((IntKind.wrap .i64 (s48.1 * 10)) + (IntKind.wrap .i64 y76)))) x1), [], []⟩) (c := nz x1) (tr2 := []) (H2 := [.box (encSt28 x0), .gone, vecL (encI .u8) 1 5 (([(IntKind.wrap .u8 ((IntKind.wrap .i64 (Int.tdiv ((IntKind.wrap .i64 ((IntKind.wrap .i64 (s48.1 * 10)) + (IntKind.wrap .i64 y76)))) x1))))] : List Int)), vecL (encI .u8) 1 5 ((s48.2.2 ++ (([(IntKind.wrap .u8 ((IntKind.wrap .i64 (Int.tdiv ((IntKind.wrap .i64 ((IntKind.wrap .i64 (s48.1 * 10)) + (IntKind.wrap .i64 y76)))) x1))))] : List Int))))]) (by kernel_rfl) hm (fun hc => rfl) (by kernel_rfl) ?_
   refine RJ.seg 1 [1, 2, 3, 6, 7, 8, 9, 10] (L2 := [(1, .int .i64 x1), (2, .int .i64 x2), (3, .ptr 0 0), (6, .nl), (7, .int .i64 0), (8, .vc 3), (9, .int .i64 ((Int.tmod ((IntKind.wrap .i64 ((IntKind.wrap .i64 (s48.1 * 10)) + (IntKind.wrap .i64 y76)))) x1))), (10, .int .i64 s48.2.1)]) (H2 := [.box (encSt28 x0), .gone, vecL (encI .u8) 1 5 (([(IntKind.wrap .u8 ((IntKind.wrap .i64 (Int.tdiv ((IntKind.wrap .i64 ((IntKind.wrap .i64 (s48.1 * 10)) + (IntKind.wrap .i64 y76)))) x1))))] : List Int)), vecL (encI .u8) 1 5 ((s48.2.2 ++ (([(IntKind.wrap .u8 ((IntKind.wrap .i64 (Int.tdiv ((IntKind.wrap .i64 ((IntKind.wrap .i64 (s48.1 * 10)) + (IntKind.wrap .i64 y76)))) x1))))] : List Int))))]) (by kernel_rfl) ?_
   refine kE ?_
   refine PJ.blockNormal ?_
   refine PJ.next ?_
   refine kR ?_
   refine kC 3 [1,2,3,6,7,8,9,10] ?_
   refine kE ?_
   obtain rfl := oi h81
   refine PJ.wk (Wk.sel (L2 := [(1, .int .i64 x1), (2, .int .i64 x2), (3, .ptr 0 0), (6, .nl), (7, .int .i64 0), (8, .vc 1), (9, .int .i64 ((Int.tmod ((IntKind.wrap .i64 ((IntKind.wrap .i64 (s48.1 * 10)) + (IntKind.wrap .i64 y76)))) x1))), (10, .int .i64 (IntKind.wrap .i64 (s48.2.1 - 1)))]) (H2 := [.box (encSt28 x0), vecL (encI .u8) 1 5 ((s48.2.2 ++ (([(IntKind.wrap .u8 ((IntKind.wrap .i64 (Int.tdiv ((IntKind.wrap .i64 ((IntKind.wrap .i64 (s48.1 * 10)) + (IntKind.wrap .i64 y76)))) x1))))] : List Int))))]) 0 (by rw [hFH]; rfl) hFD [0, 3] (by kernel_rfl) (by kernel_rfl) (by decide) (by kernel_rfl) (by kernel_rfl) (by kernel_rfl) (by kernel_rfl)) ?_
   exact PJ.loopNext [1, 2, 3, 6, 7, 8, 9, 10] (by kernel_rfl) (by kernel_rfl)
  ·have h75 := condF hb73 hs71
   refine kF ?_
   refine K.exit 0 (by kernel_rfl) ?_
   refine PJ.passExit ?_
   obtain rfl := oi h75
   refine PJ.loopOut (fun e => nomatch e) (fun he83 => ?_)
   have h82 := congrArg some he83
   refine PJ.blockOut ?_
   obtain rfl := oi h82
   refine PJ.wk (Wk.sel (L2 := [(6, .nl), (7, .int .i64 0), (8, .vc 0), (9, .int .i64 s48.1)]) (H2 := [vecL (encI .u8) 1 5 s48.2.2]) 0 (by rw [hFH]; rfl) hFD [1] (by kernel_rfl) (by kernel_rfl) (by decide) (by kernel_rfl) (by kernel_rfl) (by kernel_rfl) (by kernel_rfl)) ?_
   exact kN [6, 7, 8, 9]
 ·refine kSR ?_
  refine kC 4 [6,7] ?_
  refine kEN ?_
  refine kX ?_
  obtain rfl := oi h44
  exact K.retV (H0 := []) [0] (.inr rfl) hFn hFH hFD (by kernel_rfl) (v1 := .tup [.vc 0, .int .i64 s40.1]) (by kernel_rfl) (by kernel_rfl) (by kernel_rfl) (by decide) (by kernel_rfl) (by kernel_rfl) (by kernel_rfl) (by kernel_rfl) (by kernel_rfl)

def round_below (x0 : St28) (x1 : Int) : Option (Bool) :=
 (Option.bind (bif (decide ((x0.D_.length : Int) > 0)) then (some (decide (x0.E_ < x1))) else (some false)) fun (s4 : Bool) => (some s4))
theorem round_below_ok {x0 : St28} {x1 : Int} {r : Bool} (h : round_below x0 x1 = some r) : SC Tryz.prog 91 [.agg (encSt28 x0), .int .i64 x1] [] (.bool r) [] := by
 refine kFn (fn := Tryz.f91) (fun F hFn hFH hFD => ?_)
 unfold round_below at h
 refine kSR ?_
 refine kC 2 [1,2,4] ?_
 refine kEN ?_
 obtain ⟨s4, hy6, h8⟩ := bindS h
 refine K.cutN (by kernel_rfl) (fun (s4 : Bool) => ([(4, .bool s4)], [])) s4 ?_ ?_
 ·refine kR ?_
  refine kC 5 [1,2,4,9] ?_
  refine RJ.caseB 9 (b := (decide ((x0.D_.length : Int) > 0))) (by kernel_rfl) (fun hb9 => ?_) (fun hb9 => ?_)
  ·have h10 := condT hb9 hy6
   refine kC 6 [4] ?_
   refine kE ?_
   obtain rfl := oi h10
   refine PJ.wk (Wk.sel (L2 := [(4, .bool (decide (x0.E_ < x1)))]) (H2 := []) 0 (by rw [hFH]; rfl) hFD [] (by kernel_rfl) (by kernel_rfl) (by decide) (by kernel_rfl) (by kernel_rfl) (by kernel_rfl) (by kernel_rfl)) ?_
   exact kN [4]
  ·have h11 := condF hb9 hy6
   refine kC 6 [4] ?_
   refine kE ?_
   obtain rfl := oi h11
   refine PJ.wk (Wk.sel (L2 := [(4, .bool false)]) (H2 := []) 0 (by rw [hFH]; rfl) hFD [] (by kernel_rfl) (by kernel_rfl) (by decide) (by kernel_rfl) (by kernel_rfl) (by kernel_rfl) (by kernel_rfl)) ?_
   exact kN [4]
 ·refine kX ?_
  obtain rfl := oi h8
  exact kZ hFn hFH hFD

def round_middle (x0 : St28) (x1 : Int) (x2 : Int) (x3 : Int) : Option (Int) :=
 (Option.bind (dec_At x0 (IntKind.wrap .i64 (x3 - 1))) fun y1 => (Option.bind (bif (decide (y1 ≥ 5)) then (some ((IntKind.wrap .i64 ((IntKind.wrap .i64 (2 * x1)) + 1)))) else (some (IntKind.wrap .i64 (2 * x1)))) fun (s7 : Int) => (Option.bind (bif (decide (s7 < x2)) then (some (.inr (-1))) else (Option.bind (bif (decide (s7 > x2)) then (some true) else (bif (decide (¬ (Int.tmod y1 5) = 0)) then (some true) else (Option.bind (round_below x0 (IntKind.wrap .i64 (x3 - 1))) fun y75 => (some y75)))) fun (s64 : Bool) => (bif s64 then (some (.inr 1)) else (some (.inl ()))))) (joinX fun (s46 : Unit) => (some 0)))))
theorem round_middle_ok {x0 : St28} {x1 : Int} {x2 : Int} {x3 : Int} {r : Int} (h : round_middle x0 x1 x2 x3 = some r) : SC Tryz.prog 92 [.agg (encSt28 x0), .int .i64 x1, .int .i64 x2, .int .i64 x3] [] (.int .i64 r) [] := by
 refine kFn (fn := Tryz.f92) (fun F hFn hFH hFD => ?_)
 unfold round_middle at h
 refine kSR ?_
 refine kC 2 [1,2,3,4,8] ?_
 refine kEN ?_
 refine kSR ?_
 refine kC 3 [1,2,3,4,8,11,13] ?_
 obtain ⟨y1, hy2, h3⟩ := bindS h
 refine RJ.call0 (d := (some 14)) (f := 35) (args := [.agg (encSt28 x0), .int .i64 (IntKind.wrap .i64 (x3 - 1))]) (v := .int .u8 y1) (tr2 := []) (by kernel_rfl) (by kernel_rfl) (.cons (Le.refl _) (.cons (Le.refl _) .nil)) (dec_At_ok hy2) (by kernel_rfl) ?_
 refine kC 1 [1,2,3,4,8,9] ?_
 refine kEN ?_
 refine kSR ?_
 refine RJ.seg 3 [2, 3, 4, 8, 9, 10] (L2 := [(2, .int .i64 x2), (3, .int .i64 x3), (4, .ptr 0 0), (8, .int .i64 0), (9, .int .u8 y1), (10, .int .i64 (IntKind.wrap .i64 (2 * x1)))]) (H2 := [.box (encSt28 x0)]) (by kernel_rfl) ?_
 refine kEN ?_
 obtain ⟨s7, hy9, h11⟩ := bindS h3
 refine K.cutN (by kernel_rfl) (fun (s7 : Int) => ([(2, .int .i64 x2), (3, .int .i64 x3), (4, .ptr 0 0), (8, .int .i64 0), (9, .int .u8 y1), (10, .int .i64 s7)], [.box (encSt28 x0)])) s7 ?_ ?_
 ·refine kSR ?_
  refine kC 2 [2,3,4,8,9,10,18] ?_
  refine kEN ?_
  refine J.caseB 18 (b := (decide (y1 ≥ 5))) (by kernel_rfl) (fun hb12 => ?_) (fun hb12 => ?_)
  ·have h13 := condT hb12 hy9
   refine kT ?_
   refine kR ?_
   refine kC 3 [2,3,4,8,9,10] ?_
   refine kE ?_
   obtain rfl := oi h13
   exact kN [2, 3, 4, 8, 9, 10]
  ·have h14 := condF hb12 hy9
   refine kF ?_
   refine kK ?_
   obtain rfl := oi h14
   exact kN [2, 3, 4, 8, 9, 10]
 ·obtain ⟨y47, hy48, h49⟩ := bindS h11
  refine K.cutX (by kernel_rfl) (fun (s46 : Unit) => ([(8, .int .i64 0)], [])) y47 ?_ (fun s46 hs => ?_)
  ·refine K.block 0 (by kernel_rfl) ?_
   refine kSR ?_
   refine kC 4 [2,3,4,8,9,10,21] ?_
   refine kEN ?_
   refine J.caseB 21 (b := (decide (s7 < x2))) (by kernel_rfl) (fun hb51 => ?_) (fun hb51 => ?_)
   ·have h52 := condT hb51 hy48
    refine kT ?_
    refine kSR ?_
    refine kC 1 [8] ?_
    refine kEN ?_
    refine kX ?_
    refine PJ.blockRet ?_
    obtain rfl := oi h52
    have h54 := joinX_inr h49
    refine PJ.cutXr (fun e => nomatch e) ?_
    obtain rfl := oi h54
    exact kZ hFn hFH hFD
   ·have h53 := condF hb51 hy48
    refine kF ?_
    obtain ⟨s64, hy66, h68⟩ := bindS h53
    refine K.cutN (by kernel_rfl) (fun (s64 : Bool) => ([(8, .int .i64 0), (25, .bool s64)], [])) s64 ?_ ?_
    ·refine kR ?_
     refine kC 4 [3,4,8,9,29] ?_
     refine RJ.caseB 29 (b := (decide (s7 > x2))) (by kernel_rfl) (fun hb69 => ?_) (fun hb69 => ?_)
     ·have h70 := condT hb69 hy66
      refine kC 11 [8,25] ?_
      refine kE ?_
      obtain rfl := oi h70
      refine PJ.wk (Wk.sel (L2 := [(8, .int .i64 0), (25, .bool true)]) (H2 := []) 0 (by rw [hFH]; rfl) hFD [] (by kernel_rfl) (by kernel_rfl) (by decide) (by kernel_rfl) (by kernel_rfl) (by kernel_rfl) (by kernel_rfl)) ?_
      exact kN [8, 25]
     ·have h71 := condF hb69 hy66
      refine kC 5 [3,4,8,34] ?_
      refine RJ.caseB 34 (b := (decide (¬ (Int.tmod y1 5) = 0))) (by kernel_rfl) (fun hb72 => ?_) (fun hb72 => ?_)
      ·have h73 := condT hb72 h71
       refine RJ.seg 6 [8, 25] (L2 := [(8, .int .i64 0), (25, .bool true)]) (H2 := [.box (encSt28 x0)]) (by kernel_rfl) ?_
       refine kE ?_
       obtain rfl := oi h73
       refine PJ.wk (Wk.sel (L2 := [(8, .int .i64 0), (25, .bool true)]) (H2 := []) 0 (by rw [hFH]; rfl) hFD [] (by kernel_rfl) (by kernel_rfl) (by decide) (by kernel_rfl) (by kernel_rfl) (by kernel_rfl) (by kernel_rfl)) ?_
       exact kN [8, 25]
      ·have h74 := condF hb72 h71
       refine RJ.seg 3 [8, 34, 35, 37] (L2 := [(8, .int .i64 0), (34, .bool false), (35, .agg (encSt28 x0)), (37, .int .i64 (IntKind.wrap .i64 (x3 - 1)))]) (H2 := [.box (encSt28 x0)]) (by kernel_rfl) ?_
       obtain ⟨y75, hy76, h77⟩ := bindS h74
       refine RJ.call0 (d := (some 38)) (f := 91) (args := [.agg (encSt28 x0), .int .i64 (IntKind.wrap .i64 (x3 - 1))]) (v := .bool y75) (tr2 := []) (by kernel_rfl) (by kernel_rfl) (.cons (Le.refl _) (.cons (Le.refl _) .nil)) (round_below_ok hy76) (by kernel_rfl) ?_
       refine kC 2 [8,25] ?_
       refine kE ?_
       obtain rfl := oi h77
       refine PJ.wk (Wk.sel (L2 := [(8, .int .i64 0), (25, .bool y75)]) (H2 := []) 0 (by rw [hFH]; rfl) hFD [] (by kernel_rfl) (by kernel_rfl) (by decide) (by kernel_rfl) (by kernel_rfl) (by kernel_rfl) (by kernel_rfl)) ?_
       exact kN [8, 25]
    ·refine J.caseB 25 (b := s64) (by kernel_rfl) (fun hb78 => ?_) (fun hb78 => ?_)
     ·have h79 := condT hb78 h68
      refine kT ?_
      refine kSR ?_
      refine kC 1 [8] ?_
      refine kEN ?_
      refine kX ?_
      refine PJ.blockRet ?_
      obtain rfl := oi h79
      have h81 := joinX_inr h49
      refine PJ.cutXr (fun e => nomatch e) ?_
      obtain rfl := oi h81
      exact kZ hFn hFH hFD
     ·have h80 := condF hb78 h68
      refine kF ?_
      refine kK ?_
      refine PJ.blockNormal ?_
      obtain rfl := oi h80
      exact PJ.cutXl [8] (by kernel_rfl) (by kernel_rfl)
  ·subst hs
   have h50 := joinX_inl h49
   refine kSR ?_
   refine kC 1 [8] ?_
   refine kEN ?_
   refine kX ?_
   obtain rfl := oi h50
   exact kZ hFn hFH hFD

structure St123 where
 neg_ : Bool
 odd_ : Bool
 half_ : Int
 deriving Inhabited, DecidableEq
def encSt123 (x : St123) : List SV := [.bool x.neg_, .bool x.odd_, .int .i64 x.half_]
theorem encSt123_len (x : St123) : (encSt123 x).length = 3 := rfl

def round_ways_s0 (x0 : St123) : Option (Unit) :=
 (some ())
theorem round_ways_s0_ok {x0 : St123} {r : Unit} (h : round_ways_s0 x0 = some r) : SC Tryz.prog 93 [.agg (encSt123 x0)] [] (.mp 0) [.map [(.int .i64 0, .fn (.func 114) [] []), (.int .i64 1, .fn (.func 115) [] []), (.int .i64 2, .fn (.func 116) [] [.ptr 1 0]), (.int .i64 3, .fn (.func 117) [] [.ptr 1 0]), (.int .i64 4, .fn (.func 118) [] [.ptr 2 0]), (.int .i64 5, .fn (.func 119) [] [.ptr 2 0]), (.int .i64 6, .fn (.func 120) [] [.ptr 2 0, .ptr 1 0]), (.int .i64 7, .fn (.func 121) [] [.ptr 2 0, .ptr 1 0])], .box (encSt123 x0), .box [.fn (.func 113) [] [.ptr 1 0]]] := by
 refine kFn (fn := Tryz.f93) (fun F hFn hFH hFD => ?_)
 unfold round_ways_s0 at h
 refine kSR ?_
 refine kC 2 [1] ?_
 refine kEN ?_
 refine kSR ?_
 refine kC 3 [1,3] ?_
 refine kEN ?_
 refine kSR ?_
 refine kC 17 [2] ?_
 refine kEN ?_
 refine kX ?_
 obtain rfl := oi h
 exact K.retV (H0 := []) [2, 0, 1] (.inr rfl) hFn hFH hFD (by kernel_rfl) (v1 := .mp 2) (by kernel_rfl) (by kernel_rfl) (by kernel_rfl) (by decide) (by kernel_rfl) (by kernel_rfl) (by kernel_rfl) (by kernel_rfl) (by kernel_rfl)

def round_ways_2  : Option (Bool) :=
 (some true)
theorem round_ways_2_ok  {r : Bool} (h : round_ways_2 = some r) : SC Tryz.prog 114 [] [] (.bool r) [] := by
 refine kFn (fn := Tryz.f114) (fun F hFn hFH hFD => ?_)
 unfold round_ways_2 at h
 refine kSR ?_
 refine kC 1 [0] ?_
 refine kEN ?_
 refine kSR ?_
 refine kC 1 [0] ?_
 refine kEN ?_
 refine kX ?_
 obtain rfl := oi h
 exact kZ hFn hFH hFD

def round_next (x0 : List Int) : Option (List Int) :=
 (Option.bind (loopN (fun (s66 : Int × (List Int)) => (bif (decide (s66.1 ≥ 0)) then (bif inR s66.1 s66.2.length then (bif inR s66.1 s66.2.length then (bif (decide ((nth s66.2 s66.1) < 9)) then (bif inR s66.1 s66.2.length then (bif inR s66.1 s66.2.length then (bif inR s66.1 s66.2.length then (bif inR s66.1 s66.2.length then (some (.inr (.inr (setAt s66.2 s66.1 ((IntKind.wrap .u8 ((nth s66.2 s66.1) + 1))))))) else none) else none) else none) else none) else (bif inR s66.1 s66.2.length then (bif inR s66.1 s66.2.length then (some (.inl ((IntKind.wrap .i64 (s66.1 - 1)), (setAt s66.2 s66.1 0)))) else none) else none)) else none) else none) else (some (.inr (.inl s66.2))))) big ((IntKind.wrap .i64 ((x0.length : Int) - 1)), x0)) (joinX fun (s61 : (List Int)) => (bif room (([1] : List Int).length + s61.length) then (some (([1] : List Int) ++ s61)) else none)))
theorem round_next_ok_0 {x0 : List Int} {r : List Int} (h : round_next x0 = some r) : SC Tryz.prog 94 [.vc 0] [vecL (encI .u8) 1 5 x0] (lsv (encI .u8) 1 r) [.gone] := by
 refine kFn (fn := Tryz.f94) (fun F hFn hFH hFD => ?_)
 unfold round_next at h
 refine kSR ?_
 refine kC 1 [0,2] ?_
 refine kEN ?_
 obtain ⟨y62, hy63, h64⟩ := bindS h
 refine K.cutX (by kernel_rfl) (fun (s61 : (List Int)) => ([(0, .vc 0), (2, .nl)], [vecL (encI .u8) 1 5 s61])) y62 ?_ (fun s61 hs => ?_)
 ·refine kSR ?_
  refine kC 4 [0,2,3] ?_
  refine kEN ?_
  refine K.block 0 (by kernel_rfl) ?_
  refine K.loop (by kernel_rfl) (fun (s66 : Int × (List Int)) => ([(0, .vc 0), (2, .nl), (3, .int .i64 s66.1)], [vecL (encI .u8) 1 5 s66.2])) hy63 [0, 2, 3] (by kernel_rfl) (by kernel_rfl) (fun s66 x106 hs105 => ?_)
  refine kS ?_
  refine kSR ?_
  refine kC 2 [0,2,3,8] ?_
  refine kEN ?_
  refine J.caseB 8 (b := (decide (s66.1 ≥ 0))) (by kernel_rfl) (fun hb107 => ?_) (fun hb107 => ?_)
  ·have h108 := condT hb107 hs105
   refine kT ?_
   refine kK ?_
   refine PJ.next ?_
   refine kS ?_
   refine K.block 1 (by kernel_rfl) ?_
   refine kS ?_
   refine kSR ?_
   refine kC 2 [0,2,3,11,12] ?_
   obtain ⟨hm, h110⟩ := asrt h108
   refine RJ.rel (d := (some 13)) (ef := ⟨.ptr 0 ((s66.1 : Int).toNat * 1), [0], []⟩) (ef' := ⟨.ptr 0 ((s66.1 : Int).toNat * 1), [0], []⟩) (c := inR s66.1 s66.2.length) (tr2 := []) (H2 := [vecL (encI .u8) 1 5 s66.2]) (by kernel_rfl) hm (fun hc => rfl) (by kernel_rfl) ?_
   obtain ⟨hm, h111⟩ := asrt h110
   refine RJ.rel (d := (some 14)) (ef := ⟨(((s66.2).flatMap (encI .u8)).drop ((s66.1 : Int).toNat * 1)).headD .undef, [0], []⟩) (ef' := ⟨.int .u8 (nth s66.2 s66.1), [0], []⟩) (c := Nat.blt ((s66.1 : Int).toNat * 1) (s66.2.flatMap (encI .u8)).length) (tr2 := []) (H2 := [vecL (encI .u8) 1 5 s66.2]) (by kernel_rfl) (loadv_ok (encI_len .u8) rfl hm) (fun hc => N.load1 (encI_len .u8) (fun _ => rfl) hm) (by kernel_rfl) ?_
   refine kC 1 [0,2,3,15] ?_
   refine kEN ?_
   refine J.caseB 15 (b := (decide ((nth s66.2 s66.1) < 9))) (by kernel_rfl) (fun hb112 => ?_) (fun hb112 => ?_)
   ·have h113 := condT hb112 h111
    refine kT ?_
    refine kSR ?_
    refine RJ.seg 2 [0, 2, 3, 16, 17] (L2 := [(0, .vc 0), (2, .nl), (3, .int .i64 s66.1), (16, .vc 0), (17, .int .i64 s66.1)]) (H2 := [vecL (encI .u8) 1 5 s66.2]) (by kernel_rfl) ?_
    obtain ⟨hm, h115⟩ := asrt h113
    refine RJ.rel (d := (some 18)) (ef := ⟨.ptr 0 ((s66.1 : Int).toNat * 1), [0], []⟩) (ef' := ⟨.ptr 0 ((s66.1 : Int).toNat * 1), [0], []⟩) (c := inR s66.1 s66.2.length) (tr2 := []) (H2 := [vecL (encI .u8) 1 5 s66.2]) (by kernel_rfl) hm (fun hc => rfl) (by kernel_rfl) ?_
    obtain ⟨hm, h116⟩ := asrt h115
    refine RJ.rel (d := (some 19)) (ef := ⟨(((s66.2).flatMap (encI .u8)).drop ((s66.1 : Int).toNat * 1)).headD .undef, [0], []⟩) (ef' := ⟨.int .u8 (nth s66.2 s66.1), [0], []⟩) (c := Nat.blt ((s66.1 : Int).toNat * 1) (s66.2.flatMap (encI .u8)).length) (tr2 := []) (H2 := [vecL (encI .u8) 1 5 s66.2]) (by kernel_rfl) (loadv_ok (encI_len .u8) rfl hm) (fun hc => N.load1 (encI_len .u8) (fun _ => rfl) hm) (by kernel_rfl) ?_
    refine kC 1 [0,2,3,16,17,20] ?_
    obtain ⟨hm, h117⟩ := asrt h116
    refine RJ.rel (d := (some 21)) (ef := ⟨.ptr 0 ((s66.1 : Int).toNat * 1), [0], []⟩) (ef' := ⟨.ptr 0 ((s66.1 : Int).toNat * 1), [0], []⟩) (c := inR s66.1 s66.2.length) (tr2 := []) (H2 := [vecL (encI .u8) 1 5 s66.2]) (by kernel_rfl) hm (fun hc => rfl) (by kernel_rfl) ?_
    obtain ⟨hm, h118⟩ := asrt h117
    refine RJ.rel (d := none) (ef := ⟨.undef, [0], [(0, .vec (s66.2).length 1 5 (splice ((s66.2).flatMap (encI .u8)) ((s66.1 : Int).toNat * 1) ((encI .u8) ((IntKind.wrap .u8 ((nth s66.2 s66.1) + 1))))))]⟩) (ef' := ⟨.undef, [0], [(0, vecL (encI .u8) 1 5 (setAt s66.2 s66.1 ((IntKind.wrap .u8 ((nth s66.2 s66.1) + 1)))))]⟩) (c := Nat.ble (((s66.1 : Int).toNat * 1) + ((encI .u8) ((IntKind.wrap .u8 ((nth s66.2 s66.1) + 1)))).length) (s66.2.flatMap (encI .u8)).length) (tr2 := []) (H2 := [vecL (encI .u8) 1 5 ((setAt s66.2 s66.1 ((IntKind.wrap .u8 ((nth s66.2 s66.1) + 1)))))]) (by kernel_rfl) (storev_ok (encI_len .u8) hm) (fun hc => N.store (encI_len .u8) hm) (by kernel_rfl) ?_
    refine kEN ?_
    refine kSR ?_
    refine kC 2 [0,2,3] ?_
    refine kEN ?_
    refine kX ?_
    refine PJ.passRet ?_
    refine PJ.blockRet ?_
    refine PJ.passRet ?_
    obtain rfl := oi h118
    refine PJ.loopOut (fun e => nomatch e) (fun he121 => ?_)
    have h119 := congrArg some he121
    refine PJ.blockRet ?_
    obtain rfl := oi h119
    have h120 := joinX_inr h64
    refine PJ.cutXr (fun e => nomatch e) ?_
    obtain rfl := oi h120
    refine PJ.wk (Wk.freeze 0 (n := ((setAt s66.2 s66.1 ((IntKind.wrap .u8 ((nth s66.2 s66.1) + 1))))).length) (k := 1) (e := 5) (cs := ((setAt s66.2 s66.1 ((IntKind.wrap .u8 ((nth s66.2 s66.1) + 1))))).flatMap (encI .u8)) (by kernel_rfl)) ?_
    exact K.retV (H0 := [vecL (encI .u8) 1 5 x0]) [0] (.inr rfl) hFn hFH hFD (by kernel_rfl) (v1 := lsv (encI .u8) 1 ((setAt s66.2 s66.1 ((IntKind.wrap .u8 ((nth s66.2 s66.1) + 1)))))) (by kernel_rfl) (by kernel_rfl) (by kernel_rfl) (by decide) (by kernel_rfl) (by kernel_rfl) (by kernel_rfl) (by kernel_rfl) (by kernel_rfl)
   ·have h114 := condF hb112 h111
    refine kF ?_
    refine kK ?_
    refine PJ.next ?_
    refine kR ?_
    refine RJ.seg 2 [0, 2, 3, 23, 24] (L2 := [(0, .vc 0), (2, .nl), (3, .int .i64 s66.1), (23, .vc 0), (24, .int .i64 s66.1)]) (H2 := [vecL (encI .u8) 1 5 s66.2]) (by kernel_rfl) ?_
    obtain ⟨hm, h122⟩ := asrt h114
    refine RJ.rel (d := (some 25)) (ef := ⟨.ptr 0 ((s66.1 : Int).toNat * 1), [0], []⟩) (ef' := ⟨.ptr 0 ((s66.1 : Int).toNat * 1), [0], []⟩) (c := inR s66.1 s66.2.length) (tr2 := []) (H2 := [vecL (encI .u8) 1 5 s66.2]) (by kernel_rfl) hm (fun hc => rfl) (by kernel_rfl) ?_
    obtain ⟨hm, h123⟩ := asrt h122
    refine RJ.rel (d := none) (ef := ⟨.undef, [0], [(0, .vec (s66.2).length 1 5 (splice ((s66.2).flatMap (encI .u8)) ((s66.1 : Int).toNat * 1) ((encI .u8) 0)))]⟩) (ef' := ⟨.undef, [0], [(0, vecL (encI .u8) 1 5 (setAt s66.2 s66.1 0))]⟩) (c := Nat.ble (((s66.1 : Int).toNat * 1) + ((encI .u8) 0).length) (s66.2.flatMap (encI .u8)).length) (tr2 := []) (H2 := [vecL (encI .u8) 1 5 (setAt s66.2 s66.1 0)]) (by kernel_rfl) (storev_ok (encI_len .u8) hm) (fun hc => N.store (encI_len .u8) hm) (by kernel_rfl) ?_
    refine kE ?_
    refine PJ.blockNormal ?_
    refine PJ.next ?_
    refine kR ?_
    refine kC 3 [0,2,3] ?_
    refine kE ?_
    obtain rfl := oi h123
    exact PJ.loopNext [0, 2, 3] (by kernel_rfl) (by kernel_rfl)
  ·have h109 := condF hb107 hs105
   refine kF ?_
   refine K.exit 0 (by kernel_rfl) ?_
   refine PJ.passExit ?_
   obtain rfl := oi h109
   refine PJ.loopOut (fun e => nomatch e) (fun he125 => ?_)
   have h124 := congrArg some he125
   refine PJ.blockOut ?_
   obtain rfl := oi h124
   exact PJ.cutXl [0, 2] (by kernel_rfl) (by kernel_rfl)
 ·subst hs
  have h65 := joinX_inl h64
  refine kSR ?_
  refine kC 2 [2,26,27] ?_
  obtain ⟨hm, h126⟩ := asrt h65
  refine RJ.rel (d := (some 28)) (ef := ⟨.vc 2, [1, 0], [(1, .gone), (2, .vec (([1] : List Int).length + s61.length) 1 5 (([1] : List Int).flatMap (encI .u8) ++ s61.flatMap (encI .u8)))]⟩) (ef' := ⟨.vc 2, [1, 0], [(1, .gone), (2, vecL (encI .u8) 1 5 (([1] : List Int) ++ s61))]⟩) (c := roomB (([1] : List Int).length + s61.length)) (tr2 := []) (H2 := [vecL (encI .u8) 1 5 s61, .gone, vecL (encI .u8) 1 5 (([1] : List Int) ++ s61)]) (by kernel_rfl) (roomB_of_room hm) (fun hc => N.app) (by kernel_rfl) ?_
  refine kC 1 [2] ?_
  refine kEN ?_
  refine kX ?_
  obtain rfl := oi h126
  refine PJ.wk (Wk.freeze 2 (n := (([1] : List Int) ++ s61).length) (k := 1) (e := 5) (cs := (([1] : List Int) ++ s61).flatMap (encI .u8)) (by kernel_rfl)) ?_
  refine PJ.wk (Wk.freeze 0 (n := s61.length) (k := 1) (e := 5) (cs := s61.flatMap (encI .u8)) (by kernel_rfl)) ?_
  exact K.retV (H0 := [vecL (encI .u8) 1 5 x0]) [0] (.inr rfl) hFn hFH hFD (by kernel_rfl) (v1 := lsv (encI .u8) 1 (([1] : List Int) ++ s61)) (by kernel_rfl) (by kernel_rfl) (by kernel_rfl) (by decide) (by kernel_rfl) (by kernel_rfl) (by kernel_rfl) (by kernel_rfl) (by kernel_rfl)

def round_ways_3  : Option (Bool) :=
 (some false)
theorem round_ways_3_ok  {r : Bool} (h : round_ways_3 = some r) : SC Tryz.prog 115 [] [] (.bool r) [] := by
 refine kFn (fn := Tryz.f115) (fun F hFn hFH hFD => ?_)
 unfold round_ways_3 at h
 refine kSR ?_
 refine kC 1 [0] ?_
 refine kEN ?_
 refine kSR ?_
 refine kC 1 [0] ?_
 refine kEN ?_
 refine kX ?_
 obtain rfl := oi h
 exact kZ hFn hFH hFD

def round_ways_4_s0 (x0 : Bool) (x1 : Bool) (x2 : Int) : Option (Bool) :=
 (some (!x0))
theorem round_ways_4_s0_ok {x0 : Bool} {x1 : Bool} {x2 : Int} {r : Bool} (h : round_ways_4_s0 x0 x1 x2 = some r) : SC Tryz.prog 116 [.ptr 0 0] [.box [.bool x0, .bool x1, .int .i64 x2]] (.bool r) [.box [.bool x0, .bool x1, .int .i64 x2]] := by
 refine kFn (fn := Tryz.f116) (fun F hFn hFH hFD => ?_)
 unfold round_ways_4_s0 at h
 refine kSR ?_
 refine kC 1 [0,1] ?_
 refine kEN ?_
 refine kSR ?_
 refine kC 4 [1] ?_
 refine kEN ?_
 refine kX ?_
 obtain rfl := oi h
 exact K.retV (H0 := [.box [.bool x0, .bool x1, .int .i64 x2]]) [0] (.inr rfl) hFn hFH hFD (by kernel_rfl) (v1 := .bool (!x0)) (by kernel_rfl) (by kernel_rfl) (by kernel_rfl) (by decide) (by kernel_rfl) (by kernel_rfl) (by kernel_rfl) (by kernel_rfl) (by kernel_rfl)

def round_ways_5_s0 (x0 : Bool) (x1 : Bool) (x2 : Int) : Option (Bool) :=
 (some x0)
theorem round_ways_5_s0_ok {x0 : Bool} {x1 : Bool} {x2 : Int} {r : Bool} (h : round_ways_5_s0 x0 x1 x2 = some r) : SC Tryz.prog 117 [.ptr 0 0] [.box [.bool x0, .bool x1, .int .i64 x2]] (.bool r) [.box [.bool x0, .bool x1, .int .i64 x2]] := by
 refine kFn (fn := Tryz.f117) (fun F hFn hFH hFD => ?_)
 unfold round_ways_5_s0 at h
 refine kSR ?_
 refine kC 1 [0,1] ?_
 refine kEN ?_
 refine kSR ?_
 refine kC 3 [1] ?_
 refine kEN ?_
 refine kX ?_
 obtain rfl := oi h
 exact K.retV (H0 := [.box [.bool x0, .bool x1, .int .i64 x2]]) [0] (.inr rfl) hFn hFH hFD (by kernel_rfl) (v1 := .bool x0) (by kernel_rfl) (by kernel_rfl) (by kernel_rfl) (by decide) (by kernel_rfl) (by kernel_rfl) (by kernel_rfl) (by kernel_rfl) (by kernel_rfl)

def round_ways_1_s0 (x0 : Bool) (x1 : Bool) (x2 : Bool) (x3 : Int) : Option (Bool) :=
 (Option.bind (bif (decide (x3 > 0)) then (some true) else (bif (decide (x3 = 0)) then (some x0) else (some false))) fun (s7 : Bool) => (some s7))
theorem round_ways_1_s0_ok {x0 : Bool} {x1 : Bool} {x2 : Bool} {x3 : Int} {r : Bool} (h : round_ways_1_s0 x0 x1 x2 x3 = some r) : SC Tryz.prog 113 [.bool x0, .ptr 0 0] [.box [.bool x1, .bool x2, .int .i64 x3]] (.bool r) [.box [.bool x1, .bool x2, .int .i64 x3]] := by
 refine kFn (fn := Tryz.f113) (fun F hFn hFH hFD => ?_)
 unfold round_ways_1_s0 at h
 refine kSR ?_
 refine kC 1 [0,1,3] ?_
 refine kEN ?_
 obtain ⟨s7, hy9, h11⟩ := bindS h
 refine K.cutN (by kernel_rfl) (fun (s7 : Bool) => ([(3, .bool s7)], [.box [.bool x1, .bool x2, .int .i64 x3]])) s7 ?_ ?_
 ·refine kR ?_
  refine kC 4 [0,1,3,7] ?_
  refine RJ.caseB 7 (b := (decide (x3 > 0))) (by kernel_rfl) (fun hb12 => ?_) (fun hb12 => ?_)
  ·have h13 := condT hb12 hy9
   refine kC 8 [3] ?_
   refine kE ?_
   obtain rfl := oi h13
   exact kN [3]
  ·have h14 := condF hb12 hy9
   refine kC 4 [0,3,7,11] ?_
   refine RJ.caseB 11 (b := (decide (x3 = 0))) (by kernel_rfl) (fun hb15 => ?_) (fun hb15 => ?_)
   ·have h16 := condT hb15 h14
    refine RJ.seg 4 [3] (L2 := [(3, .bool x0)]) (H2 := [.box [.bool x1, .bool x2, .int .i64 x3]]) (by kernel_rfl) ?_
    refine kE ?_
    obtain rfl := oi h16
    exact kN [3]
   ·have h17 := condF hb15 h14
    refine RJ.seg 4 [3] (L2 := [(3, .bool false)]) (H2 := [.box [.bool x1, .bool x2, .int .i64 x3]]) (by kernel_rfl) ?_
    refine kE ?_
    obtain rfl := oi h17
    exact kN [3]
 ·refine kX ?_
  obtain rfl := oi h11
  exact K.retV (H0 := [.box [.bool x1, .bool x2, .int .i64 x3]]) [0] (.inr rfl) hFn hFH hFD (by kernel_rfl) (v1 := .bool s7) (by kernel_rfl) (by kernel_rfl) (by kernel_rfl) (by decide) (by kernel_rfl) (by kernel_rfl) (by kernel_rfl) (by kernel_rfl) (by kernel_rfl)

def round_ways_6_s0 (x0 : Bool) (x1 : Bool) (x2 : Int) : Option (Bool) :=
 (Option.bind (round_ways_1_s0 true x0 x1 x2) fun y1 => (some y1))
theorem round_ways_6_s0_ok {x0 : Bool} {x1 : Bool} {x2 : Int} {r : Bool} (h : round_ways_6_s0 x0 x1 x2 = some r) : SC Tryz.prog 118 [.ptr 0 0] [.box [.fn (.func 113) [] [.ptr 1 0]], .box [.bool x0, .bool x1, .int .i64 x2]] (.bool r) [.box [.fn (.func 113) [] [.ptr 1 0]], .box [.bool x0, .bool x1, .int .i64 x2]] := by
 refine kFn (fn := Tryz.f118) (fun F hFn hFH hFD => ?_)
 unfold round_ways_6_s0 at h
 refine kSR ?_
 refine kC 1 [0,1] ?_
 refine kEN ?_
 refine kSR ?_
 refine kC 1 [1,2] ?_
 obtain ⟨y1, hy2, h3⟩ := bindS h
 refine RJ.callG (d := (some 3)) (f := 113) (args := [.bool true, .ptr 1 0]) (args0 := [.bool true, .ptr 0 0]) (v0 := .bool y1) (v := .bool y1) (tr2 := []) (H0 := [.box [.bool x0, .bool x1, .int .i64 x2]]) (H0' := [.box [.bool x0, .bool x1, .int .i64 x2]]) (H2 := [.box [.fn (.func 113) [] [.ptr 1 0]], .box [.bool x0, .bool x1, .int .i64 x2]]) [1] (by kernel_rfl) (by kernel_rfl) (by kernel_rfl) (by kernel_rfl) (by decide) (by kernel_rfl) (by kernel_rfl) (by kernel_rfl) (.cons (Le.refl _) (.cons (Le.refl _) .nil)) (round_ways_1_s0_ok hy2) (by kernel_rfl) (by kernel_rfl) (by kernel_rfl) ?_
 refine kC 1 [1] ?_
 refine kEN ?_
 refine kX ?_
 obtain rfl := oi h3
 exact K.retV (H0 := [.box [.fn (.func 113) [] [.ptr 1 0]], .box [.bool x0, .bool x1, .int .i64 x2]]) [0, 1] (.inr rfl) hFn hFH hFD (by kernel_rfl) (v1 := .bool y1) (by kernel_rfl) (by kernel_rfl) (by kernel_rfl) (by decide) (by kernel_rfl) (by kernel_rfl) (by kernel_rfl) (by kernel_rfl) (by kernel_rfl)

def round_ways_7_s0 (x0 : Bool) (x1 : Bool) (x2 : Int) : Option (Bool) :=
 (Option.bind (round_ways_1_s0 false x0 x1 x2) fun y1 => (some y1))
theorem round_ways_7_s0_ok {x0 : Bool} {x1 : Bool} {x2 : Int} {r : Bool} (h : round_ways_7_s0 x0 x1 x2 = some r) : SC Tryz.prog 119 [.ptr 0 0] [.box [.fn (.func 113) [] [.ptr 1 0]], .box [.bool x0, .bool x1, .int .i64 x2]] (.bool r) [.box [.fn (.func 113) [] [.ptr 1 0]], .box [.bool x0, .bool x1, .int .i64 x2]] := by
 refine kFn (fn := Tryz.f119) (fun F hFn hFH hFD => ?_)
 unfold round_ways_7_s0 at h
 refine kSR ?_
 refine kC 1 [0,1] ?_
 refine kEN ?_
 refine kSR ?_
 refine kC 1 [1,2] ?_
 obtain ⟨y1, hy2, h3⟩ := bindS h
 refine RJ.callG (d := (some 3)) (f := 113) (args := [.bool false, .ptr 1 0]) (args0 := [.bool false, .ptr 0 0]) (v0 := .bool y1) (v := .bool y1) (tr2 := []) (H0 := [.box [.bool x0, .bool x1, .int .i64 x2]]) (H0' := [.box [.bool x0, .bool x1, .int .i64 x2]]) (H2 := [.box [.fn (.func 113) [] [.ptr 1 0]], .box [.bool x0, .bool x1, .int .i64 x2]]) [1] (by kernel_rfl) (by kernel_rfl) (by kernel_rfl) (by kernel_rfl) (by decide) (by kernel_rfl) (by kernel_rfl) (by kernel_rfl) (.cons (Le.refl _) (.cons (Le.refl _) .nil)) (round_ways_1_s0_ok hy2) (by kernel_rfl) (by kernel_rfl) (by kernel_rfl) ?_
 refine kC 1 [1] ?_
 refine kEN ?_
 refine kX ?_
 obtain rfl := oi h3
 exact K.retV (H0 := [.box [.fn (.func 113) [] [.ptr 1 0]], .box [.bool x0, .bool x1, .int .i64 x2]]) [0, 1] (.inr rfl) hFn hFH hFD (by kernel_rfl) (v1 := .bool y1) (by kernel_rfl) (by kernel_rfl) (by kernel_rfl) (by decide) (by kernel_rfl) (by kernel_rfl) (by kernel_rfl) (by kernel_rfl) (by kernel_rfl)

def round_ways_8_s0 (x0 : Bool) (x1 : Bool) (x2 : Int) : Option (Bool) :=
 (Option.bind (round_ways_1_s0 x1 x0 x1 x2) fun y1 => (some y1))
theorem round_ways_8_s0_ok {x0 : Bool} {x1 : Bool} {x2 : Int} {r : Bool} (h : round_ways_8_s0 x0 x1 x2 = some r) : SC Tryz.prog 120 [.ptr 0 0, .ptr 1 0] [.box [.fn (.func 113) [] [.ptr 1 0]], .box [.bool x0, .bool x1, .int .i64 x2]] (.bool r) [.box [.fn (.func 113) [] [.ptr 1 0]], .box [.bool x0, .bool x1, .int .i64 x2]] := by
 refine kFn (fn := Tryz.f120) (fun F hFn hFH hFD => ?_)
 unfold round_ways_8_s0 at h
 refine kSR ?_
 refine kC 1 [0,1,2] ?_
 refine kEN ?_
 refine kSR ?_
 refine kC 3 [2,3,5] ?_
 obtain ⟨y1, hy2, h3⟩ := bindS h
 refine RJ.callG (d := (some 6)) (f := 113) (args := [.bool x1, .ptr 1 0]) (args0 := [.bool x1, .ptr 0 0]) (v0 := .bool y1) (v := .bool y1) (tr2 := []) (H0 := [.box [.bool x0, .bool x1, .int .i64 x2]]) (H0' := [.box [.bool x0, .bool x1, .int .i64 x2]]) (H2 := [.box [.fn (.func 113) [] [.ptr 1 0]], .box [.bool x0, .bool x1, .int .i64 x2]]) [1] (by kernel_rfl) (by kernel_rfl) (by kernel_rfl) (by kernel_rfl) (by decide) (by kernel_rfl) (by kernel_rfl) (by kernel_rfl) (.cons (Le.refl _) (.cons (Le.refl _) .nil)) (round_ways_1_s0_ok hy2) (by kernel_rfl) (by kernel_rfl) (by kernel_rfl) ?_
 refine kC 1 [2] ?_
 refine kEN ?_
 refine kX ?_
 obtain rfl := oi h3
 exact K.retV (H0 := [.box [.fn (.func 113) [] [.ptr 1 0]], .box [.bool x0, .bool x1, .int .i64 x2]]) [0, 1] (.inr rfl) hFn hFH hFD (by kernel_rfl) (v1 := .bool y1) (by kernel_rfl) (by kernel_rfl) (by kernel_rfl) (by decide) (by kernel_rfl) (by kernel_rfl) (by kernel_rfl) (by kernel_rfl) (by kernel_rfl)

def round_ways_9_s0 (x0 : Bool) (x1 : Bool) (x2 : Int) : Option (Bool) :=
 (Option.bind (round_ways_1_s0 (!x1) x0 x1 x2) fun y1 => (some y1))
theorem round_ways_9_s0_ok {x0 : Bool} {x1 : Bool} {x2 : Int} {r : Bool} (h : round_ways_9_s0 x0 x1 x2 = some r) : SC Tryz.prog 121 [.ptr 0 0, .ptr 1 0] [.box [.fn (.func 113) [] [.ptr 1 0]], .box [.bool x0, .bool x1, .int .i64 x2]] (.bool r) [.box [.fn (.func 113) [] [.ptr 1 0]], .box [.bool x0, .bool x1, .int .i64 x2]] := by
 refine kFn (fn := Tryz.f121) (fun F hFn hFH hFD => ?_)
 unfold round_ways_9_s0 at h
 refine kSR ?_
 refine kC 1 [0,1,2] ?_
 refine kEN ?_
 refine kSR ?_
 refine kC 4 [2,3,6] ?_
 obtain ⟨y1, hy2, h3⟩ := bindS h
 refine RJ.callG (d := (some 7)) (f := 113) (args := [.bool (!x1), .ptr 1 0]) (args0 := [.bool (!x1), .ptr 0 0]) (v0 := .bool y1) (v := .bool y1) (tr2 := []) (H0 := [.box [.bool x0, .bool x1, .int .i64 x2]]) (H0' := [.box [.bool x0, .bool x1, .int .i64 x2]]) (H2 := [.box [.fn (.func 113) [] [.ptr 1 0]], .box [.bool x0, .bool x1, .int .i64 x2]]) [1] (by kernel_rfl) (by kernel_rfl) (by kernel_rfl) (by kernel_rfl) (by decide) (by kernel_rfl) (by kernel_rfl) (by kernel_rfl) (.cons (Le.refl _) (.cons (Le.refl _) .nil)) (round_ways_1_s0_ok hy2) (by kernel_rfl) (by kernel_rfl) (by kernel_rfl) ?_
 refine kC 1 [2] ?_
 refine kEN ?_
 refine kX ?_
 obtain rfl := oi h3
 exact K.retV (H0 := [.box [.fn (.func 113) [] [.ptr 1 0]], .box [.bool x0, .bool x1, .int .i64 x2]]) [0, 1] (.inr rfl) hFn hFH hFD (by kernel_rfl) (v1 := .bool y1) (by kernel_rfl) (by kernel_rfl) (by kernel_rfl) (by decide) (by kernel_rfl) (by kernel_rfl) (by kernel_rfl) (by kernel_rfl) (by kernel_rfl)

def slices_Reverse_s0 (x0 : List Int) : Option ((List Int)) :=
 (loopN (fun (s1 : Int × Int × (List Int)) => (bif (decide (s1.1 < s1.2.1)) then (bif inR s1.2.1 s1.2.2.length then (bif inR s1.2.1 s1.2.2.length then (bif inR s1.1 s1.2.2.length then (bif inR s1.1 s1.2.2.length then (bif inR s1.1 s1.2.2.length then (bif inR s1.1 s1.2.2.length then (bif inR s1.2.1 (setAt s1.2.2 s1.1 (nth s1.2.2 s1.2.1)).length then (bif inR s1.2.1 (setAt s1.2.2 s1.1 (nth s1.2.2 s1.2.1)).length then (some (.inl ((IntKind.wrap .i64 (s1.1 + 1)), (IntKind.wrap .i64 (s1.2.1 - 1)), (setAt (setAt s1.2.2 s1.1 (nth s1.2.2 s1.2.1)) s1.2.1 (nth s1.2.2 s1.1))))) else none) else none) else none) else none) else none) else none) else none) else none) else (some (.inr s1.2.2)))) big (0, (IntKind.wrap .i64 ((x0.length : Int) - 1)), x0))
theorem slices_Reverse_s0_ok {x0 : List Int} {r : (List Int)} (h : slices_Reverse_s0 x0 = some r) : SC Tryz.prog 122 [.vc 0] [vecL (encI .u8) 1 5 x0] (.tup []) [vecL (encI .u8) 1 5 r] := by
 refine kFn (fn := Tryz.f122) (fun F hFn hFH hFD => ?_)
 unfold slices_Reverse_s0 at h
 refine kSR ?_
 refine kC 5 [0,2,3] ?_
 refine kEN ?_
 refine K.block 0 (by kernel_rfl) ?_
 refine K.loop (by kernel_rfl) (fun (s1 : Int × Int × (List Int)) => ([(0, .vc 0), (2, .int .i64 s1.1), (3, .int .i64 s1.2.1)], [vecL (encI .u8) 1 5 s1.2.2])) h [0, 2, 3] (by kernel_rfl) (by kernel_rfl) (fun s1 x29 hs28 => ?_)
 refine kS ?_
 refine kSR ?_
 refine kC 3 [0,2,3,9] ?_
 refine kEN ?_
 refine J.caseB 9 (b := (decide (s1.1 < s1.2.1))) (by kernel_rfl) (fun hb30 => ?_) (fun hb30 => ?_)
 ·have h31 := condT hb30 hs28
  refine kT ?_
  refine kK ?_
  refine PJ.next ?_
  refine kS ?_
  refine K.block 1 (by kernel_rfl) ?_
  refine J.keep [0, 2, 3] (L2 := [(0, .vc 0), (2, .int .i64 s1.1), (3, .int .i64 s1.2.1)]) (by kernel_rfl) ?_
  refine K.draw (by kernel_rfl) (by kernel_rfl) (by kernel_rfl) (H2 := [vecL (encI .u8) 1 5 s1.2.2]) (by kernel_rfl) (n := 1) (by kernel_rfl) ?_
  refine kD 6 ?_
  obtain ⟨hm, h33⟩ := asrt h31
  refine RJ.rel (d := (some 20)) (ef := ⟨.ptr 0 ((s1.2.1 : Int).toNat * 1), [0], []⟩) (ef' := ⟨.ptr 0 ((s1.2.1 : Int).toNat * 1), [0], []⟩) (c := inR s1.2.1 s1.2.2.length) (tr2 := [([], []), ([], []), ([], []), ([], []), ([], []), ([], []), ([1], [])]) (H2 := [vecL (encI .u8) 1 5 s1.2.2]) (by kernel_rfl) hm (fun hc => rfl) (by kernel_rfl) ?_
  obtain ⟨hm, h34⟩ := asrt h33
  refine RJ.rel (d := (some 21)) (ef := ⟨(((s1.2.2).flatMap (encI .u8)).drop ((s1.2.1 : Int).toNat * 1)).headD .undef, [0], []⟩) (ef' := ⟨.int .u8 (nth s1.2.2 s1.2.1), [0], []⟩) (c := Nat.blt ((s1.2.1 : Int).toNat * 1) (s1.2.2.flatMap (encI .u8)).length) (tr2 := [([], []), ([], []), ([], []), ([], []), ([], []), ([], []), ([1], []), ([0, 1], [])]) (H2 := [vecL (encI .u8) 1 5 s1.2.2]) (by kernel_rfl) (loadv_ok (encI_len .u8) rfl hm) (fun hc => N.load1 (encI_len .u8) (fun _ => rfl) hm) (by kernel_rfl) ?_
  refine kD 2 ?_
  obtain ⟨hm, h35⟩ := asrt h34
  refine RJ.rel (d := (some 24)) (ef := ⟨.ptr 0 ((s1.1 : Int).toNat * 1), [0], []⟩) (ef' := ⟨.ptr 0 ((s1.1 : Int).toNat * 1), [0], []⟩) (c := inR s1.1 s1.2.2.length) (tr2 := [([], []), ([], []), ([], []), ([], []), ([], []), ([], []), ([1], []), ([0, 1], []), ([], []), ([], []), ([1], [])]) (H2 := [vecL (encI .u8) 1 5 s1.2.2]) (by kernel_rfl) hm (fun hc => rfl) (by kernel_rfl) ?_
  obtain ⟨hm, h36⟩ := asrt h35
  refine RJ.rel (d := (some 25)) (ef := ⟨(((s1.2.2).flatMap (encI .u8)).drop ((s1.1 : Int).toNat * 1)).headD .undef, [0], []⟩) (ef' := ⟨.int .u8 (nth s1.2.2 s1.1), [0], []⟩) (c := Nat.blt ((s1.1 : Int).toNat * 1) (s1.2.2.flatMap (encI .u8)).length) (tr2 := [([], []), ([], []), ([], []), ([], []), ([], []), ([], []), ([1], []), ([0, 1], []), ([], []), ([], []), ([1], []), ([0, 1], [])]) (H2 := [vecL (encI .u8) 1 5 s1.2.2]) (by kernel_rfl) (loadv_ok (encI_len .u8) rfl hm) (fun hc => N.load1 (encI_len .u8) (fun _ => rfl) hm) (by kernel_rfl) ?_
  obtain ⟨hm, h37⟩ := asrt h36
  refine RJ.rel (d := (some 26)) (ef := ⟨.ptr 0 ((s1.1 : Int).toNat * 1), [0], []⟩) (ef' := ⟨.ptr 0 ((s1.1 : Int).toNat * 1), [0], []⟩) (c := inR s1.1 s1.2.2.length) (tr2 := [([], []), ([], []), ([], []), ([], []), ([], []), ([], []), ([1], []), ([0, 1], []), ([], []), ([], []), ([1], []), ([0, 1], []), ([1], [])]) (H2 := [vecL (encI .u8) 1 5 s1.2.2]) (by kernel_rfl) hm (fun hc => rfl) (by kernel_rfl) ?_
  obtain ⟨hm, h38⟩ := asrt h37
  refine RJ.rel (d := none) (ef := ⟨.undef, [0], [(0, .vec (s1.2.2).length 1 5 (splice ((s1.2.2).flatMap (encI .u8)) ((s1.1 : Int).toNat * 1) ((encI .u8) (nth s1.2.2 s1.2.1))))]⟩) (ef' := ⟨.undef, [0], [(0, vecL (encI .u8) 1 5 (setAt s1.2.2 s1.1 (nth s1.2.2 s1.2.1)))]⟩) (c := Nat.ble (((s1.1 : Int).toNat * 1) + ((encI .u8) (nth s1.2.2 s1.2.1)).length) (s1.2.2.flatMap (encI .u8)).length) (tr2 := [([], []), ([], []), ([], []), ([], []), ([], []), ([], []), ([1], []), ([0, 1], []), ([], []), ([], []), ([1], []), ([0, 1], []), ([1], []), ([0, 1], [0])]) (H2 := [vecL (encI .u8) 1 5 (setAt s1.2.2 s1.1 (nth s1.2.2 s1.2.1))]) (by kernel_rfl) (storev_ok (encI_len .u8) hm) (fun hc => N.store (encI_len .u8) hm) (by kernel_rfl) ?_
  obtain ⟨hm, h39⟩ := asrt h38
  refine RJ.rel (d := (some 27)) (ef := ⟨.ptr 0 ((s1.2.1 : Int).toNat * 1), [0], []⟩) (ef' := ⟨.ptr 0 ((s1.2.1 : Int).toNat * 1), [0], []⟩) (c := inR s1.2.1 (setAt s1.2.2 s1.1 (nth s1.2.2 s1.2.1)).length) (tr2 := [([], []), ([], []), ([], []), ([], []), ([], []), ([], []), ([1], []), ([0, 1], []), ([], []), ([], []), ([1], []), ([0, 1], []), ([1], []), ([0, 1], [0]), ([1], [])]) (H2 := [vecL (encI .u8) 1 5 (setAt s1.2.2 s1.1 (nth s1.2.2 s1.2.1))]) (by kernel_rfl) hm (fun hc => rfl) (by kernel_rfl) ?_
  obtain ⟨hm, h40⟩ := asrt h39
  refine RJ.rel (d := none) (ef := ⟨.undef, [0], [(0, .vec ((setAt s1.2.2 s1.1 (nth s1.2.2 s1.2.1))).length 1 5 (splice (((setAt s1.2.2 s1.1 (nth s1.2.2 s1.2.1))).flatMap (encI .u8)) ((s1.2.1 : Int).toNat * 1) ((encI .u8) (nth s1.2.2 s1.1))))]⟩) (ef' := ⟨.undef, [0], [(0, vecL (encI .u8) 1 5 (setAt (setAt s1.2.2 s1.1 (nth s1.2.2 s1.2.1)) s1.2.1 (nth s1.2.2 s1.1)))]⟩) (c := Nat.ble (((s1.2.1 : Int).toNat * 1) + ((encI .u8) (nth s1.2.2 s1.1)).length) ((setAt s1.2.2 s1.1 (nth s1.2.2 s1.2.1)).flatMap (encI .u8)).length) (tr2 := [([], []), ([], []), ([], []), ([], []), ([], []), ([], []), ([1], []), ([0, 1], []), ([], []), ([], []), ([1], []), ([0, 1], []), ([1], []), ([0, 1], [0]), ([1], []), ([0, 1], [0])]) (H2 := [vecL (encI .u8) 1 5 ((setAt (setAt s1.2.2 s1.1 (nth s1.2.2 s1.2.1)) s1.2.1 (nth s1.2.2 s1.1)))]) (by kernel_rfl) (storev_ok (encI_len .u8) hm) (fun hc => N.store (encI_len .u8) hm) (by kernel_rfl) ?_
  refine kE ?_
  refine PJ.blockNormal ?_
  refine PJ.next ?_
  refine kR ?_
  refine RJ.seg 6 [0, 2, 3] (L2 := [(0, .vc 0), (2, .int .i64 (IntKind.wrap .i64 (s1.1 + 1))), (3, .int .i64 (IntKind.wrap .i64 (s1.2.1 - 1)))]) (H2 := [vecL (encI .u8) 1 5 ((setAt (setAt s1.2.2 s1.1 (nth s1.2.2 s1.2.1)) s1.2.1 (nth s1.2.2 s1.1)))]) (by kernel_rfl) ?_
  refine kE ?_
  obtain rfl := oi h40
  exact PJ.loopNext [0, 2, 3] (by kernel_rfl) (by kernel_rfl)
 ·have h32 := condF hb30 hs28
  refine kF ?_
  refine K.exit 0 (by kernel_rfl) ?_
  refine PJ.passExit ?_
  obtain rfl := oi h32
  refine PJ.loopOut (fun e => nomatch e) (fun he42 => ?_)
  have h41 := congrArg some he42
  refine PJ.blockOut ?_
  obtain rfl := oi h41
  exact K.retV (H0 := [vecL (encI .u8) 1 5 x0]) [0] (.inl rfl) hFn hFH hFD (by kernel_rfl) (v1 := .tup []) (by kernel_rfl) (by kernel_rfl) (by kernel_rfl) (by decide) (by kernel_rfl) (by kernel_rfl) (by kernel_rfl) (by kernel_rfl) (by kernel_rfl)

def round_times (x0 : List Int) (x1 : Int) : Option (List Int) :=
 (Option.bind (loopN (fun (s30 : Int × Int × (List Int)) => (bif (decide (s30.2.1 ≥ 0)) then (bif inR s30.2.1 x0.length then (bif room (s30.2.2.length + (([(IntKind.wrap .u8 ((Int.tmod ((IntKind.wrap .i64 (s30.1 + ((IntKind.wrap .i64 ((IntKind.wrap .i64 (nth x0 s30.2.1)) * x1)))))) 10)))] : List Int)).length) then (some (.inl ((IntKind.wrap .i64 (Int.tdiv ((IntKind.wrap .i64 (s30.1 + ((IntKind.wrap .i64 ((IntKind.wrap .i64 (nth x0 s30.2.1)) * x1)))))) 10)), (IntKind.wrap .i64 (s30.2.1 - 1)), (s30.2.2 ++ (([(IntKind.wrap .u8 ((Int.tmod ((IntKind.wrap .i64 (s30.1 + ((IntKind.wrap .i64 ((IntKind.wrap .i64 (nth x0 s30.2.1)) * x1)))))) 10)))] : List Int)))))) else none) else none) else (some (.inr (s30.1, s30.2.2))))) big (0, (IntKind.wrap .i64 ((x0.length : Int) - 1)), ([] : List Int))) fun (s25 : Int × (List Int)) => (Option.bind (loopN (fun (s80 : Int × (List Int)) => (bif (decide (s80.1 > 0)) then (bif room (s80.2.length + (([(IntKind.wrap .u8 (Int.tmod s80.1 10))] : List Int)).length) then (some (.inl ((IntKind.wrap .i64 (Int.tdiv s80.1 10)), (s80.2 ++ (([(IntKind.wrap .u8 (Int.tmod s80.1 10))] : List Int)))))) else none) else (some (.inr s80.2)))) big (s25.1, s25.2)) fun (s75 : (List Int)) => (Option.bind (slices_Reverse_s0 s75) fun y101 => (some y101))))
theorem round_times_ok {x0 : List Int} {x1 : Int} {r : List Int} (h : round_times x0 x1 = some r) : SC Tryz.prog 95 [lsv (encI .u8) 1 x0, .int .i64 x1] [] (lsv (encI .u8) 1 r) [] := by
 refine kFn (fn := Tryz.f95) (fun F hFn hFH hFD => ?_)
 unfold round_times at h
 refine kSR ?_
 refine kC 1 [0,1,4] ?_
 refine kEN ?_
 refine kSR ?_
 refine kC 1 [0,1,4,5] ?_
 refine kEN ?_
 refine kSR ?_
 refine kC 1 [0,1,4,5,6] ?_
 refine kEN ?_
 obtain ⟨s25, hy27, h29⟩ := bindS h
 refine K.cutN (by kernel_rfl) (fun (s25 : Int × (List Int)) => ([(4, .nl), (5, .vc 0), (6, .int .i64 s25.1)], [vecL (encI .u8) 1 5 s25.2])) s25 ?_ ?_
 ·refine kSR ?_
  refine RJ.seg 4 [0, 1, 4, 5, 6, 7] (L2 := [(0, lsv (encI .u8) 1 x0), (1, .int .i64 x1), (4, .nl), (5, .nl), (6, .int .i64 0), (7, .int .i64 ((IntKind.wrap .i64 ((x0.length : Int) - 1))))]) (H2 := []) (by kernel_rfl) ?_
  refine kEN ?_
  refine K.block 0 (by kernel_rfl) ?_
  refine J.wk (Wk.viv 5 1 5 (by kernel_rfl)) ?_
  refine K.loop (by kernel_rfl) (fun (s30 : Int × Int × (List Int)) => ([(0, lsv (encI .u8) 1 x0), (1, .int .i64 x1), (4, .nl), (5, .vc 0), (6, .int .i64 s30.1), (7, .int .i64 s30.2.1)], [vecL (encI .u8) 1 5 s30.2.2])) hy27 [0, 1, 4, 5, 6, 7] (by kernel_rfl) (by kernel_rfl) (fun s30 x46 hs45 => ?_)
  refine kS ?_
  refine kSR ?_
  refine kC 2 [0,1,4,5,6,7,12] ?_
  refine kEN ?_
  refine J.caseB 12 (b := (decide (s30.2.1 ≥ 0))) (by kernel_rfl) (fun hb47 => ?_) (fun hb47 => ?_)
  ·have h48 := condT hb47 hs45
   refine kT ?_
   refine kK ?_
   refine PJ.next ?_
   refine kS ?_
   refine K.block 1 (by kernel_rfl) ?_
   refine kSR ?_
   refine kC 3 [0,1,4,5,6,7,15,16,17] ?_
   obtain ⟨hm, h50⟩ := asrt h48
   refine RJ.rel (d := (some 18)) (ef := ⟨.ep (((x0.flatMap (encI .u8)).drop ((s30.2.1 : Int).toNat * 1)).take 1), [], []⟩) (ef' := ⟨.ep ((encI .u8) (nth x0 s30.2.1)), [], []⟩) (c := inR s30.2.1 x0.length) (tr2 := []) (H2 := [vecL (encI .u8) 1 5 s30.2.2]) (by kernel_rfl) hm (fun hc => N.idx (encI_len .u8) hc) (by kernel_rfl) ?_
   refine kC 6 [0,1,4,5,6,7] ?_
   refine kEN ?_
   refine kSR ?_
   refine RJ.seg 5 [0, 1, 4, 5, 6, 7, 24, 28] (L2 := [(0, lsv (encI .u8) 1 x0), (1, .int .i64 x1), (4, .nl), (5, .vc 0), (6, .int .i64 ((IntKind.wrap .i64 (s30.1 + ((IntKind.wrap .i64 ((IntKind.wrap .i64 (nth x0 s30.2.1)) * x1))))))), (7, .int .i64 s30.2.1), (24, .vc 0), (28, .vc 1)]) (H2 := [vecL (encI .u8) 1 5 s30.2.2, vecL (encI .u8) 1 5 (([(IntKind.wrap .u8 ((Int.tmod ((IntKind.wrap .i64 (s30.1 + ((IntKind.wrap .i64 ((IntKind.wrap .i64 (nth x0 s30.2.1)) * x1)))))) 10)))] : List Int))]) (by kernel_rfl) ?_
   obtain ⟨hm, h51⟩ := asrt h50
   refine RJ.rel (d := (some 29)) (ef := ⟨.vc 2, [0, 1], [(0, .gone), (2, .vec (s30.2.2.length + (([(IntKind.wrap .u8 ((Int.tmod ((IntKind.wrap .i64 (s30.1 + ((IntKind.wrap .i64 ((IntKind.wrap .i64 (nth x0 s30.2.1)) * x1)))))) 10)))] : List Int)).length) 1 5 (s30.2.2.flatMap (encI .u8) ++ (([(IntKind.wrap .u8 ((Int.tmod ((IntKind.wrap .i64 (s30.1 + ((IntKind.wrap .i64 ((IntKind.wrap .i64 (nth x0 s30.2.1)) * x1)))))) 10)))] : List Int)).flatMap (encI .u8)))]⟩) (ef' := ⟨.vc 2, [0, 1], [(0, .gone), (2, vecL (encI .u8) 1 5 (s30.2.2 ++ (([(IntKind.wrap .u8 ((Int.tmod ((IntKind.wrap .i64 (s30.1 + ((IntKind.wrap .i64 ((IntKind.wrap .i64 (nth x0 s30.2.1)) * x1)))))) 10)))] : List Int))))]⟩) (c := roomB (s30.2.2.length + (([(IntKind.wrap .u8 ((Int.tmod ((IntKind.wrap .i64 (s30.1 + ((IntKind.wrap .i64 ((IntKind.wrap .i64 (nth x0 s30.2.1)) * x1)))))) 10)))] : List Int)).length)) (tr2 := []) (H2 := [.gone, vecL (encI .u8) 1 5 (([(IntKind.wrap .u8 ((Int.tmod ((IntKind.wrap .i64 (s30.1 + ((IntKind.wrap .i64 ((IntKind.wrap .i64 (nth x0 s30.2.1)) * x1)))))) 10)))] : List Int)), vecL (encI .u8) 1 5 ((s30.2.2 ++ (([(IntKind.wrap .u8 ((Int.tmod ((IntKind.wrap .i64 (s30.1 + ((IntKind.wrap .i64 ((IntKind.wrap .i64 (nth x0 s30.2.1)) * x1)))))) 10)))] : List Int))))]) (by kernel_rfl) (roomB_of_room hm) (fun hc => N.app) (by kernel_rfl) ?_
   refine kC 1 [0,1,4,5,6,7] ?_
   refine kEN ?_
   refine kR ?_
   refine kC 3 [0,1,4,5,6,7] ?_
   refine kE ?_
   refine PJ.blockNormal ?_
   refine PJ.next ?_
   refine kR ?_
   refine kC 3 [0,1,4,5,6,7] ?_
   refine kE ?_
   obtain rfl := oi h51
   refine PJ.wk (Wk.sel (L2 := [(0, lsv (encI .u8) 1 x0), (1, .int .i64 x1), (4, .nl), (5, .vc 0), (6, .int .i64 ((IntKind.wrap .i64 (Int.tdiv ((IntKind.wrap .i64 (s30.1 + ((IntKind.wrap .i64 ((IntKind.wrap .i64 (nth x0 s30.2.1)) * x1)))))) 10)))), (7, .int .i64 (IntKind.wrap .i64 (s30.2.1 - 1)))]) (H2 := [vecL (encI .u8) 1 5 ((s30.2.2 ++ (([(IntKind.wrap .u8 ((Int.tmod ((IntKind.wrap .i64 (s30.1 + ((IntKind.wrap .i64 ((IntKind.wrap .i64 (nth x0 s30.2.1)) * x1)))))) 10)))] : List Int))))]) 0 (by rw [hFH]; rfl) hFD [2] (by kernel_rfl) (by kernel_rfl) (by decide) (by kernel_rfl) (by kernel_rfl) (by kernel_rfl) (by kernel_rfl)) ?_
   exact PJ.loopNext [0, 1, 4, 5, 6, 7] (by kernel_rfl) (by kernel_rfl)
  ·have h49 := condF hb47 hs45
   refine kF ?_
   refine K.exit 0 (by kernel_rfl) ?_
   refine PJ.passExit ?_
   obtain rfl := oi h49
   refine PJ.loopOut (fun e => nomatch e) (fun he53 => ?_)
   have h52 := congrArg some he53
   refine PJ.blockOut ?_
   obtain rfl := oi h52
   exact kN [4, 5, 6]
 ·obtain ⟨s75, hy77, h79⟩ := bindS h29
  refine K.cutN (by kernel_rfl) (fun (s75 : (List Int)) => ([(4, .nl), (5, .vc 0)], [vecL (encI .u8) 1 5 s75])) s75 ?_ ?_
  ·refine K.block 2 (by kernel_rfl) ?_
   refine K.loop (by kernel_rfl) (fun (s80 : Int × (List Int)) => ([(4, .nl), (5, .vc 0), (6, .int .i64 s80.1)], [vecL (encI .u8) 1 5 s80.2])) hy77 [4, 5, 6] (by kernel_rfl) (by kernel_rfl) (fun s80 x94 hs93 => ?_)
   refine kS ?_
   refine kSR ?_
   refine kC 2 [4,5,6,33] ?_
   refine kEN ?_
   refine J.caseB 33 (b := (decide (s80.1 > 0))) (by kernel_rfl) (fun hb95 => ?_) (fun hb95 => ?_)
   ·have h96 := condT hb95 hs93
    refine kT ?_
    refine kK ?_
    refine PJ.next ?_
    refine kS ?_
    refine K.block 3 (by kernel_rfl) ?_
    refine kR ?_
    refine kC 5 [4,5,6,36,40] ?_
    obtain ⟨hm, h98⟩ := asrt h96
    refine RJ.rel (d := (some 41)) (ef := ⟨.vc 2, [0, 1], [(0, .gone), (2, .vec (s80.2.length + (([(IntKind.wrap .u8 (Int.tmod s80.1 10))] : List Int)).length) 1 5 (s80.2.flatMap (encI .u8) ++ (([(IntKind.wrap .u8 (Int.tmod s80.1 10))] : List Int)).flatMap (encI .u8)))]⟩) (ef' := ⟨.vc 2, [0, 1], [(0, .gone), (2, vecL (encI .u8) 1 5 (s80.2 ++ (([(IntKind.wrap .u8 (Int.tmod s80.1 10))] : List Int))))]⟩) (c := roomB (s80.2.length + (([(IntKind.wrap .u8 (Int.tmod s80.1 10))] : List Int)).length)) (tr2 := []) (H2 := [.gone, vecL (encI .u8) 1 5 (([(IntKind.wrap .u8 (Int.tmod s80.1 10))] : List Int)), vecL (encI .u8) 1 5 ((s80.2 ++ (([(IntKind.wrap .u8 (Int.tmod s80.1 10))] : List Int))))]) (by kernel_rfl) (roomB_of_room hm) (fun hc => N.app) (by kernel_rfl) ?_
    refine kC 1 [4,5,6] ?_
    refine kE ?_
    refine PJ.blockNormal ?_
    refine PJ.next ?_
    refine kR ?_
    refine RJ.seg 3 [4, 5, 6] (L2 := [(4, .nl), (5, .vc 2), (6, .int .i64 (IntKind.wrap .i64 (Int.tdiv s80.1 10)))]) (H2 := [.gone, vecL (encI .u8) 1 5 (([(IntKind.wrap .u8 (Int.tmod s80.1 10))] : List Int)), vecL (encI .u8) 1 5 ((s80.2 ++ (([(IntKind.wrap .u8 (Int.tmod s80.1 10))] : List Int))))]) (by kernel_rfl) ?_
    refine kE ?_
    obtain rfl := oi h98
    refine PJ.wk (Wk.sel (L2 := [(4, .nl), (5, .vc 0), (6, .int .i64 (IntKind.wrap .i64 (Int.tdiv s80.1 10)))]) (H2 := [vecL (encI .u8) 1 5 ((s80.2 ++ (([(IntKind.wrap .u8 (Int.tmod s80.1 10))] : List Int))))]) 0 (by rw [hFH]; rfl) hFD [2] (by kernel_rfl) (by kernel_rfl) (by decide) (by kernel_rfl) (by kernel_rfl) (by kernel_rfl) (by kernel_rfl)) ?_
    exact PJ.loopNext [4, 5, 6] (by kernel_rfl) (by kernel_rfl)
   ·have h97 := condF hb95 hs93
    refine kF ?_
    refine K.exit 2 (by kernel_rfl) ?_
    refine PJ.passExit ?_
    obtain rfl := oi h97
    refine PJ.loopOut (fun e => nomatch e) (fun he100 => ?_)
    have h99 := congrArg some he100
    refine PJ.blockOut ?_
    obtain rfl := oi h99
    exact kN [4, 5]
  ·refine kSR ?_
   refine kC 1 [4,5,42] ?_
   obtain ⟨y101, hy102, h103⟩ := bindS h79
   refine RJ.callG (d := (some 43)) (f := 122) (args := [.vc 0]) (args0 := [.vc 0]) (v0 := .tup []) (v := .tup []) (tr2 := []) (H0 := [vecL (encI .u8) 1 5 s75]) (H0' := [vecL (encI .u8) 1 5 y101]) (H2 := [vecL (encI .u8) 1 5 y101]) [0] (by kernel_rfl) (by kernel_rfl) (by kernel_rfl) (by kernel_rfl) (by decide) (by kernel_rfl) (by kernel_rfl) (by kernel_rfl) (.cons (Le.refl _) .nil) (slices_Reverse_s0_ok hy102) (by kernel_rfl) (by kernel_rfl) (by kernel_rfl) ?_
   refine kEN ?_
   refine kSR ?_
   refine kC 2 [4] ?_
   refine kEN ?_
   refine kX ?_
   obtain rfl := oi h103
   refine PJ.wk (Wk.freeze 0 (n := y101.length) (k := 1) (e := 5) (cs := y101.flatMap (encI .u8)) (by kernel_rfl)) ?_
   exact kZ hFn hFH hFD

end Go.Proofs.YtcmmjficmoflkaaGreat
