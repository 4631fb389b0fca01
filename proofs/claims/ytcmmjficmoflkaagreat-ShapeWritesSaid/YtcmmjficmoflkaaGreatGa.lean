/-
  What the functions of this program come to, as functions of natives, each with the proof that it does. No conditions.
-/
import Derived.Test.YtcmmjficmoflkaaGreatProg
import Derived.Test.YtcmmjficmoflkaaGreatSySL
import Derived.Test.YtcmmjficmoflkaaGreatSyKK
namespace Go.Proofs.YtcmmjficmoflkaaGreat
open Go Go.Sy Go.RowKit
set_option linter.unusedVariables false
set_option linter.unusedSimpArgs false
set_option maxRecDepth 100000
set_option maxHeartbeats 4000000
def gtabs : Nat → Option (List SV)
 | _ => none
instance : Inhabited GT := ⟨⟨gtabs⟩⟩
structure St22 where
 Zero_ : Int
 Dec_ : Int
 Group_ : Int
 Minus_ : Int
 Plus_ : Int
 Percent_ : Int
 Exp_ : Int
 deriving Inhabited, DecidableEq
def encSt22 (x : St22) : List SV := [.int .i32 x.Zero_, .int .i32 x.Dec_, .int .i32 x.Group_, .int .i32 x.Minus_, .int .i32 x.Plus_, .int .i32 x.Percent_, .int .i32 x.Exp_]
theorem encSt22_len (x : St22) : (encSt22 x).length = 7 := rfl
structure St106 where
 Kind_ : Int
 R_ : Int
 deriving Inhabited, DecidableEq
def encSt106 (x : St106) : List SV := [.int .i64 x.Kind_, .int .i32 x.R_]
theorem encSt106_len (x : St106) : (encSt106 x).length = 2 := rfl
structure St25 where
 Pre_ : List St106
 Suf_ : List St106
 NPre_ : List St106
 NSuf_ : List St106
 Neg_ : Bool
 Hash_ : Int
 MinInt_ : Int
 MinFrac_ : Int
 MaxFrac_ : Int
 G1_ : Int
 G2_ : Int
 MinSig_ : Int
 MaxSig_ : Int
 Exp_ : Int
 ExpPlus_ : Bool
 Pad_ : Int
 PadAt_ : Int
 deriving Inhabited, DecidableEq
def encSt25 (x : St25) : List SV := [lsv encSt106 2 x.Pre_, lsv encSt106 2 x.Suf_, lsv encSt106 2 x.NPre_, lsv encSt106 2 x.NSuf_, .bool x.Neg_, .int .i64 x.Hash_, .int .i64 x.MinInt_, .int .i64 x.MinFrac_, .int .i64 x.MaxFrac_, .int .i64 x.G1_, .int .i64 x.G2_, .int .i64 x.MinSig_, .int .i64 x.MaxSig_, .int .i64 x.Exp_, .bool x.ExpPlus_, .int .i32 x.Pad_, .int .i64 x.PadAt_]
theorem encSt25_len (x : St25) : (encSt25 x).length = 17 := rfl
structure St28 where
 Neg_ : Bool
 D_ : List Int
 E_ : Int
 deriving Inhabited, DecidableEq
def encSt28 (x : St28) : List SV := [.bool x.Neg_, lsv (encI .u8) 1 x.D_, .int .i64 x.E_]
theorem encSt28_len (x : St28) : (encSt28 x).length = 3 := rfl
structure St30 where
 S_ : St22
 P_ : St25
 Digits_ : Int
 D_ : St28
 Mode_ : Int
 deriving Inhabited, DecidableEq
def encSt30 (x : St30) : List SV := [.int .i32 x.S_.Zero_, .int .i32 x.S_.Dec_, .int .i32 x.S_.Group_, .int .i32 x.S_.Minus_, .int .i32 x.S_.Plus_, .int .i32 x.S_.Percent_, .int .i32 x.S_.Exp_, lsv encSt106 2 x.P_.Pre_, lsv encSt106 2 x.P_.Suf_, lsv encSt106 2 x.P_.NPre_, lsv encSt106 2 x.P_.NSuf_, .bool x.P_.Neg_, .int .i64 x.P_.Hash_, .int .i64 x.P_.MinInt_, .int .i64 x.P_.MinFrac_, .int .i64 x.P_.MaxFrac_, .int .i64 x.P_.G1_, .int .i64 x.P_.G2_, .int .i64 x.P_.MinSig_, .int .i64 x.P_.MaxSig_, .int .i64 x.P_.Exp_, .bool x.P_.ExpPlus_, .int .i32 x.P_.Pad_, .int .i64 x.P_.PadAt_, .int .i64 x.Digits_, .bool x.D_.Neg_, lsv (encI .u8) 1 x.D_.D_, .int .i64 x.D_.E_, .int .i64 x.Mode_]
theorem encSt30_len (x : St30) : (encSt30 x).length = 29 := rfl
def exerguelaw17_latin  : Option (St22) :=
 (some (⟨48, 46, 44, 45, 43, 37, 69⟩ : St22))
theorem exerguelaw17_latin_ok  {r : St22} (h : exerguelaw17_latin = some r) : SC Tryz.prog 20 [] [] (.agg (encSt22 r)) [] := by
 refine kFn (fn := Tryz.f20) (fun F hFn hFH hFD => ?_)
 unfold exerguelaw17_latin at h
 refine kSR ?_
 refine kC 1 [0] ?_
 refine kEN ?_
 refine kSR ?_
 refine kC 2 [0] ?_
 refine kEN ?_
 refine kX ?_
 obtain rfl := oi h
 exact kZ hFn hFH hFD
def dec_figures (x0 : List Int) : Option (Bool) :=
 (Option.bind (loopN (fun (s0 : Int) => (bif (decide (s0 < (x0.length : Int))) then (bif inR s0 x0.length then (bif (decide ((nth x0 s0) > 9)) then (some (.inr (.inr false))) else (some (.inl (IntKind.wrap .i64 (s0 + 1))))) else none) else (some (.inr (.inl ()))))) big 0) (joinX fun (s1 : Unit) => (some true)))
theorem dec_figures_ok {x0 : List Int} {r : Bool} (h : dec_figures x0 = some r) : SC Tryz.prog 68 [lsv (encI .u8) 1 x0] [] (.bool r) [] := by
 refine kFn (fn := Tryz.f68) (fun F hFn hFH hFD => ?_)
 unfold dec_figures at h
 refine kSR ?_
 refine kC 1 [0,2] ?_
 refine kEN ?_
 obtain ⟨y0, hy0, h0⟩ := bindS h
 refine K.cutX (by kernel_rfl) (fun (s1 : Unit) => ([(2, .bool false)], [])) y0 ?_ (fun s1 hs => ?_)
 ·refine kSR ?_
  refine kC 3 [2,5,6,7] ?_
  refine kEN ?_
  refine kb 0 ?_
  refine kl (fun (s0 : Int) => ([(2, .bool false), (5, lsv (encI .u8) 1 x0), (6, .int .i64 (x0.length : Int)), (7, .int .i64 s0)], [])) hy0 [2, 5, 6, 7] (fun s0 x71 hs0 => ?_)
  refine kSR ?_
  refine kC 1 [2,5,6,7,8] ?_
  refine kEN ?_
  refine kS ?_
  refine kBJ 8 hs0 (fun h1 => ?_) (fun h2 => ?_)
  ·refine kT ?_
   refine kK ?_
   refine PJ.next ?_
   refine kS ?_
   refine kb 1 ?_
   refine kSR ?_
   obtain ⟨hm, h3⟩ := asrt h1
   refine kI 9 (encI_len .u8) hm ?_
   refine kC 2 [2,4,5,6,7] ?_
   refine kEN ?_
   refine kSR ?_
   refine kC 2 [2,5,6,7,12] ?_
   refine kEN ?_
   refine kBJ 12 h3 (fun h4 => ?_) (fun h5 => ?_)
   ·refine kT ?_
    refine kSR ?_
    refine kC 1 [2,5,6,7] ?_
    refine kEN ?_
    refine kX ?_
    refine PJ.blockRet ?_
    refine PJ.passRet ?_
    obtain rfl := oi h4
    refine PJ.loopOut (fun e => nomatch e) (fun he0 => ?_)
    have h6 := congrArg some he0
    refine PJ.blockRet ?_
    obtain rfl := oi h6
    have h7 := joinX_inr h0
    refine PJ.cutXr (fun e => nomatch e) ?_
    obtain rfl := oi h7
    exact kZ hFn hFH hFD
   ·refine kF ?_
    refine kK ?_
    refine PJ.blockNormal ?_
    refine PJ.next ?_
    refine kR ?_
    refine kC 2 [2,5,6,7] ?_
    refine kE ?_
    obtain rfl := oi h5
    exact kLN [2, 5, 6, 7]
  ·refine kF ?_
   refine K.exit 0 (by kernel_rfl) ?_
   refine PJ.passExit ?_
   obtain rfl := oi h2
   refine PJ.loopOut (fun e => nomatch e) (fun he1 => ?_)
   have h8 := congrArg some he1
   refine PJ.blockOut ?_
   obtain rfl := oi h8
   exact kXl [2]
 ·subst hs
  have h9 := joinX_inl h0
  refine kSR ?_
  refine kC 1 [2] ?_
  refine kEN ?_
  refine kX ?_
  obtain rfl := oi h9
  exact kZ hFn hFH hFD
def dec_Right (x0 : St28) : Option (Bool) :=
 (bif (decide ((x0.D_.length : Int) = 0)) then (some (decide (x0.E_ = 0))) else (Option.bind (Option.bind (bif (decide ((x0.D_.length : Int) > 1000)) then (some true) else (bif (decide (x0.E_ < (-1000))) then (some true) else (some (decide (x0.E_ > 1000))))) fun (s0 : Bool) => (bif s0 then (some (.inr false)) else (some (.inl ())))) (joinX fun (s2 : Unit) => (Option.bind (bif inR 0 x0.D_.length then (bif (decide (¬ (nth x0.D_ 0) = 0)) then (bif inR ((IntKind.wrap .i64 ((x0.D_.length : Int) - 1))) x0.D_.length then (bif (decide (¬ ((nth x0.D_ ((IntKind.wrap .i64 ((x0.D_.length : Int) - 1))))) = 0)) then (Option.bind (dec_figures x0.D_) fun y0 => (some y0)) else (some false)) else none) else (some false)) else none) fun (s1 : Bool) => (some s1)))))
theorem dec_Right_ok {x0 : St28} {r : Bool} (h : dec_Right x0 = some r) : SC Tryz.prog 32 [.agg (encSt28 x0)] [] (.bool r) [] := by
 refine kFn (fn := Tryz.f32) (fun F hFn hFH hFD => ?_)
 unfold dec_Right at h
 refine kSR ?_
 refine kC 2 [1,2] ?_
 refine kEN ?_
 refine kSR ?_
 refine kC 4 [1,2,3] ?_
 refine kEN ?_
 refine kS ?_
 refine kSR ?_
 refine kC 2 [1,2,3,8] ?_
 refine kEN ?_
 refine kBJ 8 h (fun h1 => ?_) (fun h2 => ?_)
 ·refine kT ?_
  refine kSR ?_
  refine kC 4 [1,2,3] ?_
  refine kEN ?_
  refine kX ?_
  refine PJ.passRet ?_
  obtain rfl := oi h1
  exact kZ hFn hFH hFD
 ·refine kF ?_
  refine kK ?_
  refine PJ.next ?_
  obtain ⟨y1, hy0, h0⟩ := bindS h2
  refine K.cutX (by kernel_rfl) (fun (s2 : Unit) => ([(1, .ptr 0 0), (2, .bool false), (3, .int .i64 (x0.D_.length : Int))], [.box (encSt28 x0)])) y1 ?_ (fun s2 hs => ?_)
  ·obtain ⟨s0, hy1, h3⟩ := bindS hy0
   refine K.cutN (by kernel_rfl) (fun (s0 : Bool) => ([(1, .ptr 0 0), (2, .bool false), (3, .int .i64 (x0.D_.length : Int)), (23, .bool s0)], [.box (encSt28 x0)])) s0 ?_ ?_
   ·refine kR ?_
    refine kC 3 [1,2,3,14] ?_
    refine kB 14 hy1 (fun h4 => ?_) (fun h5 => ?_)
    ·refine kC 9 [1,2,3,23] ?_
     refine kE ?_
     obtain rfl := oi h4
     exact kN [1, 2, 3, 23]
    ·refine kC 5 [1,2,3,19] ?_
     refine kB 19 h5 (fun h6 => ?_) (fun h7 => ?_)
     ·refine kC 4 [1,2,3,23] ?_
      refine kE ?_
      obtain rfl := oi h6
      exact kN [1, 2, 3, 23]
     ·refine kC 4 [1,2,3,23] ?_
      refine kE ?_
      obtain rfl := oi h7
      exact kN [1, 2, 3, 23]
   ·refine kBJ 23 h3 (fun h8 => ?_) (fun h9 => ?_)
    ·refine kT ?_
     refine kSR ?_
     refine kC 1 [1,2,3] ?_
     refine kEN ?_
     refine kX ?_
     obtain rfl := oi h8
     have h10 := joinX_inr h0
     refine PJ.cutXr (fun e => nomatch e) ?_
     obtain rfl := oi h10
     exact kZ hFn hFH hFD
    ·refine kF ?_
     refine kK ?_
     obtain rfl := oi h9
     exact kXl [1, 2, 3]
  ·subst hs
   have h11 := joinX_inl h0
   obtain ⟨s1, hy2, h12⟩ := bindS h11
   refine K.cutN (by kernel_rfl) (fun (s1 : Bool) => ([(2, .bool s1)], [])) s1 ?_ ?_
   ·refine kR ?_
    refine kC 2 [1,2,3,25] ?_
    obtain ⟨hm, h13⟩ := asrt hy2
    refine kI 26 (encI_len .u8) hm ?_
    refine kC 3 [1,2,3,29] ?_
    refine kB 29 h13 (fun h14 => ?_) (fun h15 => ?_)
    ·refine kC 4 [1,2,29,31,33] ?_
     obtain ⟨hm, h16⟩ := asrt h14
     refine kI 34 (encI_len .u8) hm ?_
     refine kC 4 [1,2,38] ?_
     refine kB 38 h16 (fun h17 => ?_) (fun h18 => ?_)
     ·refine kC 2 [2,38,40] ?_
      obtain ⟨y0, hy3, h19⟩ := bindS h17
      refine kA 41 (dec_figures_ok hy3) ?_
      refine kC 2 [2] ?_
      refine kE ?_
      obtain rfl := oi h19
      refine kW (L2 := [(2, .bool y0)]) (H2 := []) hFH hFD [] ?_
      exact kN [2]
     ·refine kC 5 [2] ?_
      refine kE ?_
      obtain rfl := oi h18
      refine kW (L2 := [(2, .bool false)]) (H2 := []) hFH hFD [] ?_
      exact kN [2]
    ·refine kC 14 [2] ?_
     refine kE ?_
     obtain rfl := oi h15
     refine kW (L2 := [(2, .bool false)]) (H2 := []) hFH hFD [] ?_
     exact kN [2]
   ·refine kX ?_
    obtain rfl := oi h12
    exact kZ hFn hFH hFD
structure St98 where
 Dec_ : St28
 deriving Inhabited, DecidableEq
def encSt98 (x : St98) : List SV := [.bool x.Dec_.Neg_, lsv (encI .u8) 1 x.Dec_.D_, .int .i64 x.Dec_.E_]
theorem encSt98_len (x : St98) : (encSt98 x).length = 3 := rfl
def dec_work__mag (x0 : St98) : Option (Int) :=
 (bif (decide ((x0.Dec_.D_.length : Int) = 0)) then (some 0) else (some (IntKind.wrap .i64 (((IntKind.wrap .i64 (x0.Dec_.E_ + (x0.Dec_.D_.length : Int)))) - 1))))
theorem dec_work__mag_ok {x0 : St98} {r : Int} (h : dec_work__mag x0 = some r) : SC Tryz.prog 70 [.agg (encSt98 x0)] [] (.int .i64 r) [] := by
 refine kFn (fn := Tryz.f70) (fun F hFn hFH hFD => ?_)
 unfold dec_work__mag at h
 refine kSR ?_
 refine kC 2 [1,2] ?_
 refine kEN ?_
 refine kS ?_
 refine kSR ?_
 refine kC 5 [1,2,7] ?_
 refine kEN ?_
 refine kBJ 7 h (fun h0 => ?_) (fun h1 => ?_)
 ·refine kT ?_
  refine kSR ?_
  refine kC 1 [1,2] ?_
  refine kEN ?_
  refine kX ?_
  refine PJ.passRet ?_
  obtain rfl := oi h0
  exact kZ hFn hFH hFD
 ·refine kF ?_
  refine kK ?_
  refine PJ.next ?_
  refine kSR ?_
  refine kC 10 [2] ?_
  refine kEN ?_
  refine kX ?_
  obtain rfl := oi h1
  exact kZ hFn hFH hFD
def dec_Mag (x0 : St28) : Option (Int) :=
 (Option.bind (dec_work__mag (⟨x0⟩ : St98)) fun y0 => (some y0))
theorem dec_Mag_ok {x0 : St28} {r : Int} (h : dec_Mag x0 = some r) : SC Tryz.prog 65 [.agg (encSt28 x0)] [] (.int .i64 r) [] := by
 refine kFn (fn := Tryz.f65) (fun F hFn hFH hFD => ?_)
 unfold dec_Mag at h
 refine kSR ?_
 refine kC 2 [1,2] ?_
 refine kEN ?_
 refine kSR ?_
 refine kC 2 [2,4] ?_
 obtain ⟨y0, hy0, h0⟩ := bindS h
 refine kA 5 (dec_work__mag_ok hy0) ?_
 refine kC 1 [2] ?_
 refine kEN ?_
 refine kX ?_
 obtain rfl := oi h0
 exact kZ hFn hFH hFD
def slices_Clone (x0 : List Int) : Option (List Int) :=
 (bif (Nat.beq x0.length 0) then agree (some ([] : List Int)) (bif room x0.length then (some x0) else none) else (bif room x0.length then (some x0) else none))
theorem slices_Clone_ok {x0 : List Int} {r : List Int} (h : slices_Clone x0 = some r) : SC Tryz.prog 79 [lsv (encI .u8) 1 x0] [] (lsv (encI .u8) 1 r) [] := by
 refine kFn (fn := Tryz.f79) (fun F hFn hFH hFD => ?_)
 unfold slices_Clone at h
 refine kSR ?_
 refine kC 1 [0,2] ?_
 refine kEN ?_
 refine kS ?_
 refine kSR ?_
 refine kC 1 [0,2,3] ?_
 refine RJ.isNil (d := 4) (n := x0.length) (eq := true) (by kernel_rfl) (fun b hb0 => ?_)
 cases b
 ·have h0 := agreeF h
  refine kEN ?_
  refine kF ?_
  refine kK ?_
  refine PJ.next ?_
  refine kSR ?_
  refine kC 2 [2,5,6] ?_
  obtain ⟨hm, h1⟩ := asrt h0
  refine RJ.rel (d := (some 7)) (ef := ⟨.vc 0, [], [(0, .vec x0.length 1 5 (x0.flatMap (encI .u8)))]⟩) (ef' := ⟨.vc 0, [], [(0, .vec x0.length 1 5 (x0.flatMap (encI .u8)))]⟩) (c := roomB x0.length) (tr2 := []) (H2 := [vecL (encI .u8) 1 5 x0]) (by kernel_rfl) (roomB_of_room hm) (fun hc => rfl) (by kernel_rfl) ?_
  refine kC 1 [2] ?_
  refine kEN ?_
  refine kX ?_
  obtain rfl := oi h1
  refine PJ.wk (Wk.freeze 0 (n := x0.length) (k := 1) (e := 5) (cs := x0.flatMap (encI .u8)) (by kernel_rfl)) ?_
  exact kZ hFn hFH hFD
 ·have h2 := agreeT (by rw [hb0 rfl]; rfl) h
  refine kEN ?_
  refine kT ?_
  refine kSR ?_
  refine kC 1 [0,2] ?_
  refine kEN ?_
  refine kX ?_
  refine PJ.passRet ?_
  obtain rfl := oi h2
  refine PJ.res (v1 := .nl) (Le.nl _) ?_
  exact kZ hFn hFH hFD
def dec_Shift (x0 : St28) (x1 : Int) : Option (St28 × Int) :=
 (Option.bind (Option.bind (bif (decide (x1 < (-1099511627776))) then (some true) else (some (decide (x1 > 1099511627776)))) fun (s0 : Bool) => (bif s0 then (some (.inr ((⟨false, ([] : List Int), 0⟩ : St28), 11))) else (some (.inl ())))) (joinX fun (s2 : Unit) => (Option.bind (slices_Clone x0.D_) fun y0 => (bif (decide ((y0.length : Int) = 0)) then (some ((⟨x0.Neg_, y0, x0.E_⟩ : St28), 0)) else (Option.bind (Option.bind (bif (decide ((IntKind.wrap .i64 (x0.E_ + x1)) < (-1000))) then (some true) else (some ((decide ((IntKind.wrap .i64 (x0.E_ + x1)) > 1000))))) fun (s1 : Bool) => (bif s1 then (some (.inr ((⟨false, ([] : List Int), 0⟩ : St28), 11))) else (some (.inl ())))) (joinX fun (s3 : Unit) => (some ((⟨x0.Neg_, y0, (IntKind.wrap .i64 (x0.E_ + x1))⟩ : St28), 0))))))))
theorem dec_Shift_ok {x0 : St28} {x1 : Int} {r : St28 × Int} (h : dec_Shift x0 x1 = some r) : SC Tryz.prog 69 [.agg (encSt28 x0), .int .i64 x1] [] (.tup [.agg (encSt28 r.1), .int .i64 r.2]) [] := by
 refine kFn (fn := Tryz.f69) (fun F hFn hFH hFD => ?_)
 unfold dec_Shift at h
 refine kSR ?_
 refine kC 3 [1,2,4,5] ?_
 refine kEN ?_
 obtain ⟨y1, hy0, h0⟩ := bindS h
 refine K.cutX (by kernel_rfl) (fun (s2 : Unit) => ([(1, .int .i64 x1), (2, .ptr 0 0), (4, .ptr 1 0), (5, .int .i64 0)], [.box (encSt28 x0), .box [.bool false, .nl, .int .i64 0]])) y1 ?_ (fun s2 hs => ?_)
 ·obtain ⟨s0, hy1, h2⟩ := bindS hy0
  refine K.cutN (by kernel_rfl) (fun (s0 : Bool) => ([(1, .int .i64 x1), (2, .ptr 0 0), (4, .ptr 1 0), (5, .int .i64 0), (11, .bool s0)], [.box (encSt28 x0), .box [.bool false, .nl, .int .i64 0]])) s0 ?_ ?_
  ·refine kR ?_
   refine kC 3 [1,2,4,5,8] ?_
   refine kB 8 hy1 (fun h3 => ?_) (fun h4 => ?_)
   ·refine kC 3 [1,2,4,5,11] ?_
    refine kE ?_
    obtain rfl := oi h3
    exact kN [1, 2, 4, 5, 11]
   ·refine kC 3 [1,2,4,5,11] ?_
    refine kE ?_
    obtain rfl := oi h4
    exact kN [1, 2, 4, 5, 11]
  ·refine kBJ 11 h2 (fun h5 => ?_) (fun h6 => ?_)
   ·refine kT ?_
    refine kSR ?_
    refine kC 3 [1,2,4,5] ?_
    refine kEN ?_
    refine kX ?_
    obtain rfl := oi h5
    have h7 := joinX_inr h0
    refine PJ.cutXr (fun e => nomatch e) ?_
    obtain rfl := oi h7
    refine PJ.res (v1 := .tup [.agg [.bool false, .nl, .int .i64 0], .int .i64 11]) (Le.tup (.cons (Le.agg (.cons (Le.refl _) (.cons (Le.nl _) (.cons (Le.refl _) .nil)))) (.cons (Le.refl _) .nil))) ?_
    exact kZ hFn hFH hFD
   ·refine kF ?_
    refine kK ?_
    obtain rfl := oi h6
    exact kXl [1, 2, 4, 5]
 ·subst hs
  have h8 := joinX_inl h0
  refine kSR ?_
  refine kC 2 [1,2,4,5,14] ?_
  obtain ⟨y0, hy2, h9⟩ := bindS h8
  refine kA 15 (slices_Clone_ok hy2) ?_
  refine kC 2 [1,2,4,5] ?_
  refine kEN ?_
  refine kS ?_
  refine kSR ?_
  refine kC 4 [1,2,4,5,20] ?_
  refine kEN ?_
  refine kBJ 20 h9 (fun h10 => ?_) (fun h11 => ?_)
  ·refine kT ?_
   refine kSR ?_
   refine kC 3 [1,2,4,5] ?_
   refine kEN ?_
   refine kX ?_
   refine PJ.passRet ?_
   obtain rfl := oi h10
   exact kZ hFn hFH hFD
  ·refine kF ?_
   refine kK ?_
   refine PJ.next ?_
   refine kSR ?_
   refine kC 6 [2,4,5] ?_
   refine kEN ?_
   obtain ⟨y2, hy3, h1⟩ := bindS h11
   refine K.cutX (by kernel_rfl) (fun (s3 : Unit) => ([(2, .ptr 0 0), (4, .ptr 1 0), (5, .int .i64 0)], [.box [.bool x0.Neg_, lsv (encI .u8) 1 y0, .int .i64 (IntKind.wrap .i64 (x0.E_ + x1))], .box [.bool false, .nl, .int .i64 0]])) y2 ?_ (fun s3 hs => ?_)
   ·obtain ⟨s1, hy4, h12⟩ := bindS hy3
    refine K.cutN (by kernel_rfl) (fun (s1 : Bool) => ([(2, .ptr 0 0), (4, .ptr 1 0), (5, .int .i64 0), (34, .bool s1)], [.box [.bool x0.Neg_, lsv (encI .u8) 1 y0, .int .i64 (IntKind.wrap .i64 (x0.E_ + x1))], .box [.bool false, .nl, .int .i64 0]])) s1 ?_ ?_
    ·refine kR ?_
     refine kC 4 [2,4,5,30] ?_
     refine kB 30 hy4 (fun h13 => ?_) (fun h14 => ?_)
     ·refine kC 4 [2,4,5,34] ?_
      refine kE ?_
      obtain rfl := oi h13
      exact kN [2, 4, 5, 34]
     ·refine kC 4 [2,4,5,34] ?_
      refine kE ?_
      obtain rfl := oi h14
      exact kN [2, 4, 5, 34]
    ·refine kBJ 34 h12 (fun h15 => ?_) (fun h16 => ?_)
     ·refine kT ?_
      refine kSR ?_
      refine kC 3 [2,4,5] ?_
      refine kEN ?_
      refine kX ?_
      obtain rfl := oi h15
      have h17 := joinX_inr h1
      refine PJ.cutXr (fun e => nomatch e) ?_
      obtain rfl := oi h17
      refine PJ.res (v1 := .tup [.agg [.bool false, .nl, .int .i64 0], .int .i64 11]) (Le.tup (.cons (Le.agg (.cons (Le.refl _) (.cons (Le.nl _) (.cons (Le.refl _) .nil)))) (.cons (Le.refl _) .nil))) ?_
      exact kZ hFn hFH hFD
     ·refine kF ?_
      refine kK ?_
      obtain rfl := oi h16
      exact kXl [2, 4, 5]
   ·subst hs
    have h18 := joinX_inl h1
    refine kSR ?_
    refine kC 3 [4,5] ?_
    refine kEN ?_
    refine kX ?_
    obtain rfl := oi h18
    exact kZ hFn hFH hFD
def shape_bare (x0 : St25) (x1 : St28) : Option (St28 × Int) :=
 (bif (decide (x0.Exp_ < 1)) then (some (x1, 0)) else (Option.bind (dec_Mag x1) fun y0 => (Option.bind (dec_Shift x1 (IntKind.wrap .i64 (0 - y0))) fun y1 => (some (y1.1, y0)))))
theorem shape_bare_ok {x0 : St25} {x1 : St28} {r : St28 × Int} (h : shape_bare x0 x1 = some r) : SC Tryz.prog 33 [.agg (encSt25 x0), .agg (encSt28 x1)] [] (.tup [.agg (encSt28 r.1), .int .i64 r.2]) [] := by
 refine kFn (fn := Tryz.f33) (fun F hFn hFH hFD => ?_)
 unfold shape_bare at h
 refine kSR ?_
 refine kC 4 [2,3,4,5] ?_
 refine kEN ?_
 refine kS ?_
 refine kSR ?_
 refine kC 3 [3,4,5,9] ?_
 refine kEN ?_
 refine kBJ 9 h (fun h0 => ?_) (fun h1 => ?_)
 ·refine kT ?_
  refine kSR ?_
  refine kC 3 [3,4,5] ?_
  refine kEN ?_
  refine kX ?_
  refine PJ.passRet ?_
  obtain rfl := oi h0
  exact kZ hFn hFH hFD
 ·refine kF ?_
  refine kK ?_
  refine PJ.next ?_
  refine kSR ?_
  refine kC 1 [3,4,5,11] ?_
  obtain ⟨y0, hy0, h2⟩ := bindS h1
  refine kA 12 (dec_Mag_ok hy0) ?_
  refine kC 1 [3,4,5,6] ?_
  refine kEN ?_
  refine kSR ?_
  refine kC 3 [3,4,5,6,14,16] ?_
  obtain ⟨y1, hy1, h3⟩ := bindS h2
  refine kA 17 (dec_Shift_ok hy1) ?_
  refine kC 4 [3,4,5,6] ?_
  refine kEN ?_
  refine kSR ?_
  refine kC 4 [4,5] ?_
  refine kEN ?_
  refine kX ?_
  obtain rfl := oi h3
  exact kZ hFn hFH hFD
def shape_count (x0 : Int) : Option (Int) :=
 (some (maxI 0 (minI x0 1000)))
theorem shape_count_ok {x0 : Int} {r : Int} (h : shape_count x0 = some r) : SC Tryz.prog 28 [.int .i64 x0] [] (.int .i64 r) [] := by
 refine kFn (fn := Tryz.f28) (fun F hFn hFH hFD => ?_)
 unfold shape_count at h
 refine kSR ?_
 refine kC 1 [0,2] ?_
 refine kEN ?_
 refine kSR ?_
 refine kC 4 [2] ?_
 refine kEN ?_
 refine kX ?_
 obtain rfl := oi h
 exact kZ hFn hFH hFD
def shape_ahead (x0 : St25) (x1 : St28) : Option (Int) :=
 (Option.bind (shape_count x0.MinInt_) fun y0 => (Option.bind (Option.bind (bif (decide (x0.Exp_ < 1)) then (some (decide (x0.MaxSig_ > 0))) else (some false)) fun (s1 : Bool) => (bif s1 then (some 1) else (some y0))) fun (s0 : Int) => (bif (decide ((x1.D_.length : Int) = 0)) then (some s0) else (Option.bind (dec_Mag x1) fun y1 => (some (maxI s0 (IntKind.wrap .i64 (y1 + 1))))))))
theorem shape_ahead_ok {x0 : St25} {x1 : St28} {r : Int} (h : shape_ahead x0 x1 = some r) : SC Tryz.prog 36 [.agg (encSt25 x0), .agg (encSt28 x1)] [] (.int .i64 r) [] := by
 refine kFn (fn := Tryz.f36) (fun F hFn hFH hFD => ?_)
 unfold shape_ahead at h
 refine kSR ?_
 refine kC 3 [2,3,4] ?_
 refine kEN ?_
 refine kSR ?_
 refine kC 2 [2,3,4,7] ?_
 obtain ⟨y0, hy0, h0⟩ := bindS h
 refine kA 8 (shape_count_ok hy0) ?_
 refine kC 1 [2,3,4,5] ?_
 refine kEN ?_
 obtain ⟨s0, hy1, h1⟩ := bindS h0
 refine K.cutN (by kernel_rfl) (fun (s0 : Int) => ([(3, .ptr 0 0), (4, .int .i64 0), (5, .int .i64 s0)], [.box (encSt28 x1)])) s0 ?_ ?_
 ·obtain ⟨s1, hy2, h2⟩ := bindS hy1
  refine K.cutN (by kernel_rfl) (fun (s1 : Bool) => ([(3, .ptr 0 0), (4, .int .i64 0), (5, .int .i64 y0), (16, .bool s1)], [.box (encSt28 x1)])) s1 ?_ ?_
  ·refine kR ?_
   refine kC 4 [2,3,4,5,12] ?_
   refine kB 12 hy2 (fun h3 => ?_) (fun h4 => ?_)
   ·refine kC 4 [3,4,5,16] ?_
    refine kE ?_
    obtain rfl := oi h3
    refine kW (L2 := [(3, .ptr 0 0), (4, .int .i64 0), (5, .int .i64 y0), (16, .bool (decide (x0.MaxSig_ > 0)))]) (H2 := [.box (encSt28 x1)]) hFH hFD [1] ?_
    exact kN [3, 4, 5, 16]
   ·refine kC 4 [3,4,5,16] ?_
    refine kE ?_
    obtain rfl := oi h4
    refine kW (L2 := [(3, .ptr 0 0), (4, .int .i64 0), (5, .int .i64 y0), (16, .bool false)]) (H2 := [.box (encSt28 x1)]) hFH hFD [1] ?_
    exact kN [3, 4, 5, 16]
  ·refine kBJ 16 h2 (fun h5 => ?_) (fun h6 => ?_)
   ·refine kT ?_
    refine kR ?_
    refine kC 1 [3,4,5] ?_
    refine kE ?_
    obtain rfl := oi h5
    exact kN [3, 4, 5]
   ·refine kF ?_
    refine kK ?_
    obtain rfl := oi h6
    exact kN [3, 4, 5]
 ·refine kS ?_
  refine kSR ?_
  refine kC 4 [3,4,5,20] ?_
  refine kEN ?_
  refine kBJ 20 h1 (fun h7 => ?_) (fun h8 => ?_)
  ·refine kT ?_
   refine kSR ?_
   refine kC 2 [3,4,5] ?_
   refine kEN ?_
   refine kX ?_
   refine PJ.passRet ?_
   obtain rfl := oi h7
   exact kZ hFn hFH hFD
  ·refine kF ?_
   refine kK ?_
   refine PJ.next ?_
   refine kSR ?_
   refine kC 2 [4,22,23] ?_
   obtain ⟨y1, hy3, h9⟩ := bindS h8
   refine kA 24 (dec_Mag_ok hy3) ?_
   refine kC 3 [4] ?_
   refine kEN ?_
   refine kX ?_
   obtain rfl := oi h9
   exact kZ hFn hFH hFD
def dec_work__figure (x0 : St98) (x1 : Int) : Option (Int) :=
 (Option.bind (Option.bind (bif (decide (x1 < 0)) then (some true) else (some ((decide (x1 ≥ (x0.Dec_.D_.length : Int)))))) fun (s0 : Bool) => (bif s0 then (some (.inr 0)) else (some (.inl ())))) (joinX fun (s1 : Unit) => (bif inR x1 x0.Dec_.D_.length then (some (nth x0.Dec_.D_ x1)) else none)))
theorem dec_work__figure_ok {x0 : St98} {x1 : Int} {r : Int} (h : dec_work__figure x0 x1 = some r) : SC Tryz.prog 71 [.agg (encSt98 x0), .int .i64 x1] [] (.int .u8 r) [] := by
 refine kFn (fn := Tryz.f71) (fun F hFn hFH hFD => ?_)
 unfold dec_work__figure at h
 refine kSR ?_
 refine kC 2 [1,2,4] ?_
 refine kEN ?_
 obtain ⟨y0, hy0, h0⟩ := bindS h
 refine K.cutX (by kernel_rfl) (fun (s1 : Unit) => ([(1, .int .i64 x1), (2, .ptr 0 0), (4, .int .u8 0)], [.box (encSt98 x0)])) y0 ?_ (fun s1 hs => ?_)
 ·obtain ⟨s0, hy1, h1⟩ := bindS hy0
  refine K.cutN (by kernel_rfl) (fun (s0 : Bool) => ([(1, .int .i64 x1), (2, .ptr 0 0), (4, .int .u8 0), (14, .bool s0)], [.box (encSt98 x0)])) s0 ?_ ?_
  ·refine kR ?_
   refine kC 3 [1,2,4,7] ?_
   refine kB 7 hy1 (fun h2 => ?_) (fun h3 => ?_)
   ·refine kC 7 [1,2,4,14] ?_
    refine kE ?_
    obtain rfl := oi h2
    exact kN [1, 2, 4, 14]
   ·refine kC 7 [1,2,4,14] ?_
    refine kE ?_
    obtain rfl := oi h3
    exact kN [1, 2, 4, 14]
  ·refine kBJ 14 h1 (fun h4 => ?_) (fun h5 => ?_)
   ·refine kT ?_
    refine kSR ?_
    refine kC 1 [1,2,4] ?_
    refine kEN ?_
    refine kX ?_
    obtain rfl := oi h4
    have h6 := joinX_inr h0
    refine PJ.cutXr (fun e => nomatch e) ?_
    obtain rfl := oi h6
    exact kZ hFn hFH hFD
   ·refine kF ?_
    refine kK ?_
    obtain rfl := oi h5
    exact kXl [1, 2, 4]
 ·subst hs
  have h7 := joinX_inl h0
  refine kSR ?_
  refine kC 4 [4,17,18] ?_
  obtain ⟨hm, h8⟩ := asrt h7
  refine kI 19 (encI_len .u8) hm ?_
  refine kC 2 [4] ?_
  refine kEN ?_
  refine kX ?_
  obtain rfl := oi h8
  exact kZ hFn hFH hFD
def dec_At (x0 : St28) (x1 : Int) : Option (Int) :=
 (Option.bind (Option.bind (bif (decide (x1 < x0.E_)) then (some true) else (Option.bind (dec_work__mag (⟨x0⟩ : St98)) fun y1 => (some (decide (x1 > y1))))) fun (s0 : Bool) => (bif s0 then (some (.inr 0)) else (some (.inl ())))) (joinX fun (s1 : Unit) => (Option.bind (dec_work__mag (⟨x0⟩ : St98)) fun y0 => (Option.bind (dec_work__figure (⟨x0⟩ : St98) (IntKind.wrap .i64 (y0 - x1))) fun y2 => (some y2)))))
theorem dec_At_ok {x0 : St28} {x1 : Int} {r : Int} (h : dec_At x0 x1 = some r) : SC Tryz.prog 35 [.agg (encSt28 x0), .int .i64 x1] [] (.int .u8 r) [] := by
 refine kFn (fn := Tryz.f35) (fun F hFn hFH hFD => ?_)
 unfold dec_At at h
 refine kSR ?_
 refine kC 2 [1,2,4] ?_
 refine kEN ?_
 refine kSR ?_
 refine kC 4 [1,4,5] ?_
 refine kEN ?_
 obtain ⟨y3, hy0, h0⟩ := bindS h
 refine K.cutX (by kernel_rfl) (fun (s1 : Unit) => ([(1, .int .i64 x1), (4, .int .u8 0), (5, .ptr 0 0)], [.box (encSt28 x0)])) y3 ?_ (fun s1 hs => ?_)
 ·obtain ⟨s0, hy1, h1⟩ := bindS hy0
  refine K.cutN (by kernel_rfl) (fun (s0 : Bool) => ([(1, .int .i64 x1), (4, .int .u8 0), (5, .ptr 0 0), (18, .bool s0)], [.box (encSt28 x0)])) s0 ?_ ?_
  ·refine kR ?_
   refine kC 6 [1,4,5,13] ?_
   refine kB 13 hy1 (fun h2 => ?_) (fun h3 => ?_)
   ·refine kC 5 [1,4,5,18] ?_
    refine kE ?_
    obtain rfl := oi h2
    refine kW (L2 := [(1, .int .i64 x1), (4, .int .u8 0), (5, .ptr 0 0), (18, .bool true)]) (H2 := [.box (encSt28 x0)]) hFH hFD [1] ?_
    exact kN [1, 4, 5, 18]
   ·refine kC 2 [1,4,5,13,14,15] ?_
    obtain ⟨y1, hy2, h4⟩ := bindS h3
    refine kA 16 (dec_work__mag_ok hy2) ?_
    refine kC 2 [1,4,5,18] ?_
    refine kE ?_
    obtain rfl := oi h4
    refine kW (L2 := [(1, .int .i64 x1), (4, .int .u8 0), (5, .ptr 0 0), (18, .bool (decide (x1 > y1)))]) (H2 := [.box (encSt28 x0)]) hFH hFD [1] ?_
    exact kN [1, 4, 5, 18]
  ·refine kBJ 18 h1 (fun h5 => ?_) (fun h6 => ?_)
   ·refine kT ?_
    refine kSR ?_
    refine kC 1 [1,4,5] ?_
    refine kEN ?_
    refine kX ?_
    obtain rfl := oi h5
    have h7 := joinX_inr h0
    refine PJ.cutXr (fun e => nomatch e) ?_
    obtain rfl := oi h7
    exact kZ hFn hFH hFD
   ·refine kF ?_
    refine kK ?_
    obtain rfl := oi h6
    exact kXl [1, 4, 5]
 ·subst hs
  have h8 := joinX_inl h0
  refine kS ?_
  refine J.keep [1, 4, 5] (L2 := [(1, .int .i64 x1), (4, .int .u8 0), (5, .ptr 0 0)]) (by kernel_rfl) ?_
  refine K.draw (by kernel_rfl) (by kernel_rfl) (by kernel_rfl) (H2 := [.box (encSt28 x0), .res, .res]) (by kernel_rfl) (n := 1) (by kernel_rfl) ?_
  refine kD 2 ?_
  obtain ⟨y0, hy3, h9⟩ := bindS h8
  refine RJ.call0 (d := (some 21)) (f := 70) (args := [.agg (encSt28 x0)]) (v := .int .i64 y0) (tr2 := [([0, 1], []), ([0, 1], []), ([], [2, 3])]) (by kernel_rfl) (by kernel_rfl) (.cons (Le.refl _) .nil) (dec_work__mag_ok hy3) (by kernel_rfl) ?_
  refine kD 2 ?_
  obtain ⟨y2, hy4, h10⟩ := bindS h9
  refine RJ.call0 (d := (some 24)) (f := 71) (args := [.agg (encSt28 x0), .int .i64 (IntKind.wrap .i64 (y0 - x1))]) (v := .int .u8 y2) (tr2 := [([0, 1], []), ([0, 1], []), ([], [2, 3]), ([], []), ([], []), ([], [4, 5])]) (by kernel_rfl) (by kernel_rfl) (.cons (Le.refl _) (.cons (Le.refl _) .nil)) (dec_work__figure_ok hy4) (by kernel_rfl) ?_
  refine kD 1 ?_
  refine kEN ?_
  refine kX ?_
  obtain rfl := oi h10
  exact kZ hFn hFH hFD
def shape_Figures_1_s0 (x0 : Int) (x1 : Int) (x2 : Bool) (x3 : List Int) (x4 : Int) : Option ((List Int)) :=
 (Option.bind (loopN (fun (s0 : Int × (List Int)) => (bif (decide (s0.1 < x1)) then (Option.bind (dec_At (⟨x2, x3, x4⟩ : St28) (IntKind.wrap .i64 (x0 - s0.1))) fun y0 => (bif room (s0.2.length + ([y0] : List Int).length) then (some (.inl ((IntKind.wrap .i64 (s0.1 + 1)), (s0.2 ++ ([y0] : List Int))))) else none)) else (some (.inr s0.2)))) big (0, ([] : List Int))) fun (s1 : (List Int)) => (some s1))
theorem shape_Figures_1_s0_ok {x0 : Int} {x1 : Int} {x2 : Bool} {x3 : List Int} {x4 : Int} {r : (List Int)} (h : shape_Figures_1_s0 x0 x1 x2 x3 x4 = some r) : SC Tryz.prog 34 [.int .i64 x0, .int .i64 x1, .ptr 0 0] [.box [.bool x2, lsv (encI .u8) 1 x3, .int .i64 x4]] (lsv (encI .u8) 1 r) [.box [.bool x2, lsv (encI .u8) 1 x3, .int .i64 x4]] := by
 refine kFn (fn := Tryz.f34) (fun F hFn hFH hFD => ?_)
 unfold shape_Figures_1_s0 at h
 refine kSR ?_
 refine kC 1 [0,1,2,5] ?_
 refine kEN ?_
 refine kSR ?_
 refine kC 1 [0,1,2,5,6] ?_
 refine kEN ?_
 obtain ⟨s1, hy0, h0⟩ := bindS h
 refine K.cutN (by kernel_rfl) (fun (s1 : (List Int)) => ([(5, .nl), (6, .vc 1)], [.box [.bool x2, lsv (encI .u8) 1 x3, .int .i64 x4], vecL (encI .u8) 1 5 s1])) s1 ?_ ?_
 ·refine kSR ?_
  refine kC 2 [0,2,5,6,8,9] ?_
  refine kEN ?_
  refine kb 0 ?_
  refine J.wk (Wk.viv 6 1 5 (by kernel_rfl)) ?_
  refine kl (fun (s0 : Int × (List Int)) => ([(0, .int .i64 x0), (2, .ptr 0 0), (5, .nl), (6, .vc 1), (8, .int .i64 x1), (9, .int .i64 s0.1)], [.box [.bool x2, lsv (encI .u8) 1 x3, .int .i64 x4], vecL (encI .u8) 1 5 s0.2])) hy0 [0, 2, 5, 6, 8, 9] (fun s0 x56 hs0 => ?_)
  refine kSR ?_
  refine kC 1 [0,2,5,6,8,9,10] ?_
  refine kEN ?_
  refine kS ?_
  refine kBJ 10 hs0 (fun h1 => ?_) (fun h2 => ?_)
  ·refine kT ?_
   refine kK ?_
   refine PJ.next ?_
   refine kS ?_
   refine kb 1 ?_
   refine kSR ?_
   refine kC 2 [0,2,5,6,7,8,9] ?_
   refine kEN ?_
   refine kR ?_
   refine kC 5 [0,2,5,6,8,9,12,13,16] ?_
   obtain ⟨y0, hy1, h3⟩ := bindS h1
   refine kA 17 (dec_At_ok hy1) ?_
   refine kC 1 [0,2,5,6,8,9,12,18] ?_
   obtain ⟨hm, h4⟩ := asrt h3
   refine RJ.rel (d := (some 19)) (ef := ⟨.vc 3, [1, 2], [(1, .gone), (3, .vec (s0.2.length + ([y0] : List Int).length) 1 5 (s0.2.flatMap (encI .u8) ++ ([y0] : List Int).flatMap (encI .u8)))]⟩) (ef' := ⟨.vc 3, [1, 2], [(1, .gone), (3, vecL (encI .u8) 1 5 (s0.2 ++ ([y0] : List Int)))]⟩) (c := roomB (s0.2.length + ([y0] : List Int).length)) (tr2 := []) (H2 := [.box [.bool x2, lsv (encI .u8) 1 x3, .int .i64 x4], .gone, vecL (encI .u8) 1 5 ([y0] : List Int), vecL (encI .u8) 1 5 (s0.2 ++ ([y0] : List Int))]) (by kernel_rfl) (roomB_of_room hm) (fun hc => N.app) (by kernel_rfl) ?_
   refine kC 1 [0,2,5,6,8,9] ?_
   refine kE ?_
   refine PJ.blockNormal ?_
   refine PJ.next ?_
   refine kR ?_
   refine kC 2 [0,2,5,6,8,9] ?_
   refine kE ?_
   obtain rfl := oi h4
   refine kW (L2 := [(0, .int .i64 x0), (2, .ptr 0 0), (5, .nl), (6, .vc 1), (8, .int .i64 x1), (9, .int .i64 (IntKind.wrap .i64 (s0.1 + 1)))]) (H2 := [.box [.bool x2, lsv (encI .u8) 1 x3, .int .i64 x4], vecL (encI .u8) 1 5 (s0.2 ++ ([y0] : List Int))]) hFH hFD [0, 3] ?_
   exact kLN [0, 2, 5, 6, 8, 9]
  ·refine kF ?_
   refine K.exit 0 (by kernel_rfl) ?_
   refine PJ.passExit ?_
   obtain rfl := oi h2
   refine PJ.loopOut (fun e => nomatch e) (fun he0 => ?_)
   have h5 := congrArg some he0
   refine PJ.blockOut ?_
   obtain rfl := oi h5
   exact kN [5, 6]
 ·refine kSR ?_
  refine kC 2 [5] ?_
  refine kEN ?_
  refine kX ?_
  obtain rfl := oi h0
  refine PJ.wk (Wk.freeze 1 (n := s1.length) (k := 1) (e := 5) (cs := s1.flatMap (encI .u8)) (by kernel_rfl)) ?_
  exact kV [0] hFn hFH hFD (v1 := lsv (encI .u8) 1 s1)
def shape_behind (x0 : St25) (x1 : Int) (x2 : St28) : Option (Int) :=
 (Option.bind (shape_count x0.MinFrac_) fun y0 => (Option.bind (bif (decide (x0.Exp_ > 0)) then (some y0) else (bif (decide (x0.MaxSig_ > 0)) then (Option.bind (shape_count x0.MinSig_) fun y1 => (Option.bind (dec_Mag x2) fun y2 => (some ((IntKind.wrap .i64 ((IntKind.wrap .i64 (y1 - 1)) - y2)))))) else (bif (decide (x1 ≥ 0)) then (Option.bind (shape_count x1) fun y3 => (some y3)) else (some y0)))) fun (s0 : Int) => (some (maxI (maxI 0 s0) (IntKind.wrap .i64 (0 - x2.E_))))))
theorem shape_behind_ok {x0 : St25} {x1 : Int} {x2 : St28} {r : Int} (h : shape_behind x0 x1 x2 = some r) : SC Tryz.prog 37 [.agg (encSt25 x0), .int .i64 x1, .agg (encSt28 x2)] [] (.int .i64 r) [] := by
 refine kFn (fn := Tryz.f37) (fun F hFn hFH hFD => ?_)
 unfold shape_behind at h
 refine kSR ?_
 refine kC 3 [1,3,5,6] ?_
 refine kEN ?_
 refine kSR ?_
 refine kC 2 [1,3,5,6,9] ?_
 obtain ⟨y0, hy0, h0⟩ := bindS h
 refine kA 10 (shape_count_ok hy0) ?_
 refine kC 1 [1,3,5,6,7] ?_
 refine kEN ?_
 obtain ⟨s0, hy1, h1⟩ := bindS h0
 refine K.cutN (by kernel_rfl) (fun (s0 : Int) => ([(5, .ptr 0 0), (6, .int .i64 0), (7, .int .i64 s0)], [.box (encSt28 x2)])) s0 ?_ ?_
 ·refine kb 0 ?_
  refine kSR ?_
  refine kC 4 [1,3,5,6,7,11] ?_
  refine kEN ?_
  refine kBJ 11 hy1 (fun h2 => ?_) (fun h3 => ?_)
  ·refine kT ?_
   refine kK ?_
   refine PJ.blockNormal ?_
   obtain rfl := oi h2
   refine kW (L2 := [(5, .ptr 0 0), (6, .int .i64 0), (7, .int .i64 y0)]) (H2 := [.box (encSt28 x2)]) hFH hFD [1] ?_
   exact kN [5, 6, 7]
  ·refine kF ?_
   refine kSR ?_
   refine kC 4 [1,3,5,6,7,15] ?_
   refine kEN ?_
   refine kBJ 15 h3 (fun h4 => ?_) (fun h5 => ?_)
   ·refine kT ?_
    refine J.keep [3, 5, 6, 7] (L2 := [(3, .ptr 0 0), (5, .ptr 1 0), (6, .int .i64 0), (7, .int .i64 y0)]) (by kernel_rfl) ?_
    refine K.draw (by kernel_rfl) (by kernel_rfl) (by kernel_rfl) (H2 := [.box (encSt25 x0), .box (encSt28 x2), .res, .res]) (by kernel_rfl) (n := 2) (by kernel_rfl) ?_
    refine kD 2 ?_
    obtain ⟨y1, hy2, h6⟩ := bindS h4
    refine RJ.call0 (d := (some 21)) (f := 28) (args := [.int .i64 x0.MinSig_]) (v := .int .i64 y1) (tr2 := [([], []), ([0, 1], []), ([], [4, 5])]) (by kernel_rfl) (by kernel_rfl) (.cons (Le.refl _) .nil) (shape_count_ok hy2) (by kernel_rfl) ?_
    refine kD 2 ?_
    obtain ⟨y2, hy3, h7⟩ := bindS h6
    refine RJ.call0 (d := (some 24)) (f := 65) (args := [.agg (encSt28 x2)]) (v := .int .i64 y2) (tr2 := [([], []), ([0, 1], []), ([], [4, 5]), ([], []), ([2, 3], []), ([], [6, 7])]) (by kernel_rfl) (by kernel_rfl) (.cons (Le.refl _) .nil) (dec_Mag_ok hy3) (by kernel_rfl) ?_
    refine kD 2 ?_
    refine kE ?_
    refine PJ.blockNormal ?_
    obtain rfl := oi h7
    refine kW (L2 := [(5, .ptr 0 0), (6, .int .i64 0), (7, .int .i64 ((IntKind.wrap .i64 ((IntKind.wrap .i64 (y1 - 1)) - y2))))]) (H2 := [.box (encSt28 x2)]) hFH hFD [1] ?_
    exact kN [5, 6, 7]
   ·refine kF ?_
    refine kSR ?_
    refine kC 3 [1,5,6,7,26] ?_
    refine kEN ?_
    refine kBJ 26 h5 (fun h8 => ?_) (fun h9 => ?_)
    ·refine kT ?_
     refine kR ?_
     refine kC 1 [5,6,7,29] ?_
     obtain ⟨y3, hy4, h10⟩ := bindS h8
     refine kA 30 (shape_count_ok hy4) ?_
     refine kC 1 [5,6,7] ?_
     refine kE ?_
     refine PJ.blockNormal ?_
     obtain rfl := oi h10
     refine kW (L2 := [(5, .ptr 0 0), (6, .int .i64 0), (7, .int .i64 y3)]) (H2 := [.box (encSt28 x2)]) hFH hFD [1] ?_
     exact kN [5, 6, 7]
    ·refine kF ?_
     refine kK ?_
     refine PJ.blockNormal ?_
     obtain rfl := oi h9
     refine kW (L2 := [(5, .ptr 0 0), (6, .int .i64 0), (7, .int .i64 y0)]) (H2 := [.box (encSt28 x2)]) hFH hFD [1] ?_
     exact kN [5, 6, 7]
 ·refine kSR ?_
  refine kC 6 [6] ?_
  refine kEN ?_
  refine kX ?_
  obtain rfl := oi h1
  exact kZ hFn hFH hFD
def shape_Figures (x0 : St25) (x1 : Int) (x2 : St28) : Option ((List Int) × (List Int) × Int) :=
 (Option.bind (dec_Right x2) fun y5 => (bif (!y5) then (some (([] : List Int), ([] : List Int), 0)) else (Option.bind (shape_bare x0 x2) fun y0 => (Option.bind (shape_ahead x0 y0.1) fun y1 => (Option.bind (shape_Figures_1_s0 (IntKind.wrap .i64 (y1 - 1)) y1 y0.1.Neg_ y0.1.D_ y0.1.E_) fun y3 => (Option.bind (shape_behind x0 x1 y0.1) fun y2 => (Option.bind (shape_Figures_1_s0 (-1) y2 y0.1.Neg_ y0.1.D_ y0.1.E_) fun y4 => (some (y3, y4, y0.2)))))))))
theorem shape_Figures_ok {x0 : St25} {x1 : Int} {x2 : St28} {r : (List Int) × (List Int) × Int} (h : shape_Figures x0 x1 x2 = some r) : SC Tryz.prog 11 [.agg (encSt25 x0), .int .i64 x1, .agg (encSt28 x2)] [] (.tup [lsv (encI .u8) 1 r.1, lsv (encI .u8) 1 r.2.1, .int .i64 r.2.2]) [] := by
 refine kFn (fn := Tryz.f11) (fun F hFn hFH hFD => ?_)
 unfold shape_Figures at h
 refine kSR ?_
 refine kC 5 [1,3,5,6,7,8] ?_
 refine kEN ?_
 refine kS ?_
 refine kSR ?_
 refine kC 1 [1,3,5,6,7,8,12] ?_
 obtain ⟨y5, hy0, h0⟩ := bindS h
 refine kA 13 (dec_Right_ok hy0) ?_
 refine kC 1 [1,3,5,6,7,8,14] ?_
 refine kEN ?_
 refine kBJ 14 h0 (fun h1 => ?_) (fun h2 => ?_)
 ·refine kT ?_
  refine kSR ?_
  refine kC 3 [1,3,5,6,7,8] ?_
  refine kEN ?_
  refine kX ?_
  refine PJ.passRet ?_
  obtain rfl := oi h1
  refine PJ.res (v1 := .tup [.nl, .nl, .int .i64 0]) (Le.tup (.cons (Le.nl _) (.cons (Le.nl _) (.cons (Le.refl _) .nil)))) ?_
  exact kZ hFn hFH hFD
 ·refine kF ?_
  refine kK ?_
  refine PJ.next ?_
  refine kSR ?_
  refine kC 2 [1,3,5,6,7,8,16,17] ?_
  obtain ⟨y0, hy1, h3⟩ := bindS h2
  refine kA 18 (shape_bare_ok hy1) ?_
  refine kC 5 [1,3,5,6,7,8,9] ?_
  refine kEN ?_
  refine kSR ?_
  refine kC 2 [1,3,5,6,7,8,9,10] ?_
  refine kEN ?_
  refine kSR ?_
  refine kC 2 [1,3,5,6,7,8,9,10,22,23] ?_
  obtain ⟨y1, hy2, h4⟩ := bindS h3
  refine kA 24 (shape_ahead_ok hy2) ?_
  refine kC 1 [1,3,5,6,7,8,9,10,11] ?_
  refine kEN ?_
  refine kS ?_
  refine J.keep [1, 3, 5, 6, 7, 8, 9, 10, 11] (L2 := [(1, .int .i64 x1), (3, .ptr 0 0), (5, .ptr 1 0), (6, .nl), (7, .nl), (8, .int .i64 0), (9, .int .i64 y0.2), (10, .fn (.func 34) [] [.ptr 1 0]), (11, .int .i64 y1)]) (by kernel_rfl) ?_
  refine K.draw (by kernel_rfl) (by kernel_rfl) (by kernel_rfl) (H2 := [.box (encSt25 x0), .box (encSt28 y0.1), .res, .res, .res]) (by kernel_rfl) (n := 2) (by kernel_rfl) ?_
  refine RJ.segD 4 (tr2 := [([], []), ([], []), ([], []), ([], [])]) (L2 := [(28, .int .i64 y1), (27, .int .i64 (IntKind.wrap .i64 (y1 - 1))), (26, .int .i64 y1), (25, .fn (.func 34) [] [.ptr 1 0]), (1, .int .i64 x1), (3, .ptr 0 0), (5, .ptr 1 0), (6, .nl), (7, .nl), (8, .int .i64 0), (9, .int .i64 y0.2), (10, .fn (.func 34) [] [.ptr 1 0]), (11, .int .i64 y1)]) (H2 := [.box (encSt25 x0), .box (encSt28 y0.1), .res, .res, .res]) (by kernel_rfl) ?_
  obtain ⟨y3, hy3, h5⟩ := bindS h4
  refine RJ.callU (d := (some 29)) (f := 34) (args := [.int .i64 (IntKind.wrap .i64 (y1 - 1)), .int .i64 y1, .ptr 1 0]) (args0 := [.int .i64 (IntKind.wrap .i64 (y1 - 1)), .int .i64 y1, .ptr 0 0]) (v := lsv (encI .u8) 1 y3) (tr2 := [([], []), ([], []), ([], []), ([], []), ([2, 3], [4, 5])]) (H0 := [.box (encSt28 y0.1)]) [1] (by kernel_rfl) (by kernel_rfl) (by kernel_rfl) (by kernel_rfl) (by decide) (by kernel_rfl) (by kernel_rfl) (by kernel_rfl) (.cons (Le.refl _) (.cons (Le.refl _) (.cons (Le.refl _) .nil))) (shape_Figures_1_s0_ok hy3) (by kernel_rfl) ?_
  refine kD 4 ?_
  obtain ⟨y2, hy4, h6⟩ := bindS h5
  refine RJ.call0 (d := (some 34)) (f := 37) (args := [.agg (encSt25 x0), .int .i64 x1, .agg (encSt28 y0.1)]) (v := .int .i64 y2) (tr2 := [([], []), ([], []), ([], []), ([], []), ([2, 3], [4, 5]), ([], []), ([0, 1], []), ([], []), ([2, 3], []), ([], [6, 7])]) (by kernel_rfl) (by kernel_rfl) (.cons (Le.refl _) (.cons (Le.refl _) (.cons (Le.refl _) .nil))) (shape_behind_ok hy4) (by kernel_rfl) ?_
  obtain ⟨y4, hy5, h7⟩ := bindS h6
  refine RJ.callU (d := (some 35)) (f := 34) (args := [.int .i64 (-1), .int .i64 y2, .ptr 1 0]) (args0 := [.int .i64 (-1), .int .i64 y2, .ptr 0 0]) (v := lsv (encI .u8) 1 y4) (tr2 := [([], []), ([], []), ([], []), ([], []), ([2, 3], [4, 5]), ([], []), ([0, 1], []), ([], []), ([2, 3], []), ([], [6, 7]), ([2, 3], [8, 9])]) (H0 := [.box (encSt28 y0.1)]) [1] (by kernel_rfl) (by kernel_rfl) (by kernel_rfl) (by kernel_rfl) (by decide) (by kernel_rfl) (by kernel_rfl) (by kernel_rfl) (.cons (Le.refl _) (.cons (Le.refl _) (.cons (Le.refl _) .nil))) (shape_Figures_1_s0_ok hy5) (by kernel_rfl) ?_
  refine kD 4 ?_
  refine kEN ?_
  refine kX ?_
  obtain rfl := oi h7
  exact kZ hFn hFH hFD
def sym_cut (x0 : Int) (x1 : Int) (x2 : Int) : Option (Bool) :=
 (Option.bind (Option.bind (bif (decide (x1 < 1)) then (some true) else (some (decide (x0 < x1)))) fun (s0 : Bool) => (bif s0 then (some (.inr false)) else (some (.inl ())))) (joinX fun (s2 : Unit) => (Option.bind (bif (decide (x0 = x1)) then (some true) else (bif (decide (x2 > 0)) then (bif nz x2 then (some ((decide (((Int.tmod (IntKind.wrap .i64 (x0 - x1)) x2)) = 0)))) else none) else (some false))) fun (s1 : Bool) => (some s1))))
theorem sym_cut_ok {x0 : Int} {x1 : Int} {x2 : Int} {r : Bool} (h : sym_cut x0 x1 x2 = some r) : SC Tryz.prog 72 [.int .i64 x0, .int .i64 x1, .int .i64 x2] [] (.bool r) [] := by
 refine kFn (fn := Tryz.f72) (fun F hFn hFH hFD => ?_)
 unfold sym_cut at h
 refine kSR ?_
 refine kC 1 [0,1,2,6] ?_
 refine kEN ?_
 obtain ⟨y0, hy0, h0⟩ := bindS h
 refine K.cutX (by kernel_rfl) (fun (s2 : Unit) => ([(0, .int .i64 x0), (1, .int .i64 x1), (2, .int .i64 x2), (6, .bool false)], [])) y0 ?_ (fun s2 hs => ?_)
 ·obtain ⟨s0, hy1, h1⟩ := bindS hy0
  refine K.cutN (by kernel_rfl) (fun (s0 : Bool) => ([(0, .int .i64 x0), (1, .int .i64 x1), (2, .int .i64 x2), (6, .bool false), (13, .bool s0)], [])) s0 ?_ ?_
  ·refine kR ?_
   refine kC 3 [0,1,2,6,9] ?_
   refine kB 9 hy1 (fun h2 => ?_) (fun h3 => ?_)
   ·refine kC 4 [0,1,2,6,13] ?_
    refine kE ?_
    obtain rfl := oi h2
    exact kN [0, 1, 2, 6, 13]
   ·refine kC 4 [0,1,2,6,13] ?_
    refine kE ?_
    obtain rfl := oi h3
    exact kN [0, 1, 2, 6, 13]
  ·refine kBJ 13 h1 (fun h4 => ?_) (fun h5 => ?_)
   ·refine kT ?_
    refine kSR ?_
    refine kC 1 [0,1,2,6] ?_
    refine kEN ?_
    refine kX ?_
    obtain rfl := oi h4
    have h6 := joinX_inr h0
    refine PJ.cutXr (fun e => nomatch e) ?_
    obtain rfl := oi h6
    exact kZ hFn hFH hFD
   ·refine kF ?_
    refine kK ?_
    obtain rfl := oi h5
    exact kXl [0, 1, 2, 6]
 ·subst hs
  have h7 := joinX_inl h0
  obtain ⟨s1, hy2, h8⟩ := bindS h7
  refine K.cutN (by kernel_rfl) (fun (s1 : Bool) => ([(6, .bool s1)], [])) s1 ?_ ?_
  ·refine kR ?_
   refine kC 4 [0,1,2,6,17] ?_
   refine kB 17 hy2 (fun h9 => ?_) (fun h10 => ?_)
   ·refine kC 12 [6] ?_
    refine kE ?_
    obtain rfl := oi h9
    exact kN [6]
   ·refine kC 3 [0,1,2,6,17,20] ?_
    refine kB 20 h10 (fun h11 => ?_) (fun h12 => ?_)
    ·refine kC 4 [6,17,20,23,24] ?_
     obtain ⟨hm, h13⟩ := asrt h11
     refine kQ 25 (.int .i64 (Int.tmod (IntKind.wrap .i64 (x0 - x1)) x2)) [] (tr2 := []) hm ?_
     refine kC 4 [6] ?_
     refine kE ?_
     obtain rfl := oi h13
     exact kN [6]
    ·refine kC 9 [6] ?_
     refine kE ?_
     obtain rfl := oi h12
     exact kN [6]
  ·refine kX ?_
   obtain rfl := oi h8
   exact kZ hFn hFH hFD
def sym_Grouped (x0 : St22) (x1 : List Int) (x2 : Int) (x3 : Int) : Option (List Int) :=
 (Option.bind (loopN (fun (s0 : Int × (List Int)) => (bif (decide (s0.1 < (x1.length : Int))) then (Option.bind (Option.bind (Option.bind (bif (decide (s0.1 > 0)) then (Option.bind (sym_cut ((IntKind.wrap .i64 ((x1.length : Int) - s0.1))) x2 x3) fun y0 => (some y0)) else (some false)) fun (s2 : Bool) => (bif s2 then (bif room (s0.2.length + ([x0.Group_] : List Int).length) then (some (s0.2 ++ ([x0.Group_] : List Int))) else none) else (some s0.2))) fun (s1 : (List Int)) => (bif inR s0.1 x1.length then (bif room (s1.length + (([(IntKind.wrap .i32 (x0.Zero_ + (IntKind.wrap .i32 (nth x1 s0.1))))] : List Int)).length) then (some ((s1 ++ (([(IntKind.wrap .i32 (x0.Zero_ + (IntKind.wrap .i32 (nth x1 s0.1))))] : List Int))))) else none) else none)) fun (s3 : (List Int)) => (some (.inl ((IntKind.wrap .i64 (s0.1 + 1)), s3)))) else (some (.inr s0.2)))) big (0, ([] : List Int))) fun (s4 : (List Int)) => (some s4))
theorem sym_Grouped_ok_o {x0 : St22} {x1 : List Int} {x2 : Int} {x3 : Int} {r : List Int} (h : sym_Grouped x0 x1 x2 x3 = some r) : SC Tryz.prog 40 [.agg (encSt22 x0), lsv (encI .u8) 1 x1, .int .i64 x2, .int .i64 x3] [] (.vc 0) [vecL (encI .i32) 1 21 r] := by
 refine kFn (fn := Tryz.f40) (fun F hFn hFH hFD => ?_)
 unfold sym_Grouped at h
 refine kSR ?_
 refine kC 2 [1,2,3,4,8] ?_
 refine kEN ?_
 refine kSR ?_
 refine kC 1 [1,2,3,4,8,9] ?_
 refine kEN ?_
 obtain ⟨s4, hy0, h0⟩ := bindS h
 refine K.cutN (by kernel_rfl) (fun (s4 : (List Int)) => ([(8, .nl), (9, .vc 0)], [vecL (encI .i32) 1 21 s4])) s4 ?_ ?_
 ·refine kSR ?_
  refine kC 3 [1,2,3,4,8,9,12,13] ?_
  refine kEN ?_
  refine kb 0 ?_
  refine J.wk (Wk.viv 9 1 21 (by kernel_rfl)) ?_
  refine kl (fun (s0 : Int × (List Int)) => ([(1, lsv (encI .u8) 1 x1), (2, .int .i64 x2), (3, .int .i64 x3), (4, .ptr 0 0), (8, .nl), (9, .vc 1), (12, .int .i64 (x1.length : Int)), (13, .int .i64 s0.1)], [.box (encSt22 x0), vecL (encI .i32) 1 21 s0.2])) hy0 [1, 2, 3, 4, 8, 9, 12, 13] (fun s0 x551 hs0 => ?_)
  refine kSR ?_
  refine kC 1 [1,2,3,4,8,9,12,13,14] ?_
  refine kEN ?_
  refine kS ?_
  refine kBJ 14 hs0 (fun h1 => ?_) (fun h2 => ?_)
  ·refine kT ?_
   refine kK ?_
   refine PJ.next ?_
   obtain ⟨s3, hy1, h3⟩ := bindS h1
   refine K.cutN (by kernel_rfl) (fun (s3 : (List Int)) => ([(1, lsv (encI .u8) 1 x1), (2, .int .i64 x2), (3, .int .i64 x3), (4, .ptr 0 0), (8, .nl), (9, .vc 1), (12, .int .i64 (x1.length : Int)), (13, .int .i64 s0.1)], [.box (encSt22 x0), vecL (encI .i32) 1 21 s3])) s3 ?_ ?_
   ·refine kb 1 ?_
    refine kSR ?_
    refine kC 2 [1,2,3,4,8,9,10,12,13] ?_
    refine kEN ?_
    obtain ⟨s1, hy2, h4⟩ := bindS hy1
    refine K.cutN (by kernel_rfl) (fun (s1 : (List Int)) => ([(1, lsv (encI .u8) 1 x1), (2, .int .i64 x2), (3, .int .i64 x3), (4, .ptr 0 0), (8, .nl), (9, .vc 1), (10, .int .i64 s0.1), (12, .int .i64 (x1.length : Int)), (13, .int .i64 s0.1)], [.box (encSt22 x0), vecL (encI .i32) 1 21 s1])) s1 ?_ ?_
    ·obtain ⟨s2, hy3, h5⟩ := bindS hy2
     refine K.cutN (by kernel_rfl) (fun (s2 : Bool) => ([(1, lsv (encI .u8) 1 x1), (2, .int .i64 x2), (3, .int .i64 x3), (4, .ptr 0 0), (8, .nl), (9, .vc 1), (10, .int .i64 s0.1), (12, .int .i64 (x1.length : Int)), (13, .int .i64 s0.1), (26, .bool s2)], [.box (encSt22 x0), vecL (encI .i32) 1 21 s0.2])) s2 ?_ ?_
     ·refine kR ?_
      refine kC 3 [1,2,3,4,8,9,10,12,13,18] ?_
      refine kB 18 hy3 (fun h6 => ?_) (fun h7 => ?_)
      ·refine kC 6 [1,2,3,4,8,9,10,12,13,18,22,23,24] ?_
       obtain ⟨y0, hy4, h8⟩ := bindS h6
       refine kA 25 (sym_cut_ok hy4) ?_
       refine kC 1 [1,2,3,4,8,9,10,12,13,26] ?_
       refine kE ?_
       obtain rfl := oi h8
       exact kN [1, 2, 3, 4, 8, 9, 10, 12, 13, 26]
      ·refine kC 8 [1,2,3,4,8,9,10,12,13,26] ?_
       refine kE ?_
       obtain rfl := oi h7
       exact kN [1, 2, 3, 4, 8, 9, 10, 12, 13, 26]
     ·refine kBJ 26 h5 (fun h9 => ?_) (fun h10 => ?_)
      ·refine kT ?_
       refine kR ?_
       refine kC 4 [1,2,3,4,8,9,10,12,13,27,30] ?_
       obtain ⟨hm, h11⟩ := asrt h9
       refine RJ.rel (d := (some 31)) (ef := ⟨.vc 3, [1, 2], [(1, .gone), (3, .vec (s0.2.length + ([x0.Group_] : List Int).length) 1 21 (s0.2.flatMap (encI .i32) ++ ([x0.Group_] : List Int).flatMap (encI .i32)))]⟩) (ef' := ⟨.vc 3, [1, 2], [(1, .gone), (3, vecL (encI .i32) 1 21 (s0.2 ++ ([x0.Group_] : List Int)))]⟩) (c := room (s0.2.length + ([x0.Group_] : List Int).length)) (tr2 := []) (H2 := [.box (encSt22 x0), .gone, vecL (encI .i32) 1 21 ([x0.Group_] : List Int), vecL (encI .i32) 1 21 (s0.2 ++ ([x0.Group_] : List Int))]) (by kernel_rfl) hm (fun hc => N.app) (by kernel_rfl) ?_
       refine kC 1 [1,2,3,4,8,9,10,12,13] ?_
       refine kE ?_
       obtain rfl := oi h11
       refine kW (L2 := [(1, lsv (encI .u8) 1 x1), (2, .int .i64 x2), (3, .int .i64 x3), (4, .ptr 0 0), (8, .nl), (9, .vc 1), (10, .int .i64 s0.1), (12, .int .i64 (x1.length : Int)), (13, .int .i64 s0.1)]) (H2 := [.box (encSt22 x0), vecL (encI .i32) 1 21 (s0.2 ++ ([x0.Group_] : List Int))]) hFH hFD [0, 3] ?_
       exact kN [1, 2, 3, 4, 8, 9, 10, 12, 13]
      ·refine kF ?_
       refine kK ?_
       obtain rfl := oi h10
       exact kN [1, 2, 3, 4, 8, 9, 10, 12, 13]
    ·refine J.keep [1, 2, 3, 4, 8, 9, 10, 12, 13] (L2 := [(1, lsv (encI .u8) 1 x1), (2, .int .i64 x2), (3, .int .i64 x3), (4, .ptr 0 0), (8, .nl), (9, .vc 1), (10, .int .i64 s0.1), (12, .int .i64 (x1.length : Int)), (13, .int .i64 s0.1)]) (by kernel_rfl) ?_
     refine K.draw (by kernel_rfl) (by kernel_rfl) (by kernel_rfl) (H2 := [.box (encSt22 x0), vecL (encI .i32) 1 21 s1, .res, .res]) (by kernel_rfl) (n := 2) (by kernel_rfl) ?_
     refine kD 5 ?_
     obtain ⟨hm, h12⟩ := asrt h4
     refine kJ 37 (tr2 := [([], []), ([], []), ([0, 1], []), ([], []), ([], []), ([], [])]) (encI_len .u8) hm ?_
     refine kD 4 ?_
     obtain ⟨hm, h13⟩ := asrt h12
     refine RJ.rel (d := (some 42)) (ef := ⟨.vc 3, [1, 2], [(1, .gone), (3, .vec (s1.length + (([(IntKind.wrap .i32 (x0.Zero_ + (IntKind.wrap .i32 (nth x1 s0.1))))] : List Int)).length) 1 21 (s1.flatMap (encI .i32) ++ (([(IntKind.wrap .i32 (x0.Zero_ + (IntKind.wrap .i32 (nth x1 s0.1))))] : List Int)).flatMap (encI .i32)))]⟩) (ef' := ⟨.vc 3, [1, 2], [(1, .gone), (3, vecL (encI .i32) 1 21 (s1 ++ (([(IntKind.wrap .i32 (x0.Zero_ + (IntKind.wrap .i32 (nth x1 s0.1))))] : List Int))))]⟩) (c := room (s1.length + (([(IntKind.wrap .i32 (x0.Zero_ + (IntKind.wrap .i32 (nth x1 s0.1))))] : List Int)).length)) (tr2 := [([], []), ([], []), ([0, 1], []), ([], []), ([], []), ([], []), ([], []), ([], []), ([], []), ([], [4, 5, 4, 5]), ([2, 3, 4, 5], [2, 3, 6, 7, 6, 7])]) (H2 := [.box (encSt22 x0), .gone, vecL (encI .i32) 1 21 (([(IntKind.wrap .i32 (x0.Zero_ + (IntKind.wrap .i32 (nth x1 s0.1))))] : List Int)), vecL (encI .i32) 1 21 ((s1 ++ (([(IntKind.wrap .i32 (x0.Zero_ + (IntKind.wrap .i32 (nth x1 s0.1))))] : List Int))))]) (by kernel_rfl) hm (fun hc => N.app) (by kernel_rfl) ?_
     refine kD 1 ?_
     refine kE ?_
     refine PJ.blockNormal ?_
     obtain rfl := oi h13
     refine kW (L2 := [(1, lsv (encI .u8) 1 x1), (2, .int .i64 x2), (3, .int .i64 x3), (4, .ptr 0 0), (8, .nl), (9, .vc 1), (12, .int .i64 (x1.length : Int)), (13, .int .i64 s0.1)]) (H2 := [.box (encSt22 x0), vecL (encI .i32) 1 21 ((s1 ++ (([(IntKind.wrap .i32 (x0.Zero_ + (IntKind.wrap .i32 (nth x1 s0.1))))] : List Int))))]) hFH hFD [0, 3] ?_
     exact kN [1, 2, 3, 4, 8, 9, 12, 13]
   ·refine kR ?_
    refine kC 2 [1,2,3,4,8,9,12,13] ?_
    refine kE ?_
    obtain rfl := oi h3
    exact kLN [1, 2, 3, 4, 8, 9, 12, 13]
  ·refine kF ?_
   refine K.exit 0 (by kernel_rfl) ?_
   refine PJ.passExit ?_
   obtain rfl := oi h2
   refine PJ.loopOut (fun e => nomatch e) (fun he0 => ?_)
   have h14 := congrArg some he0
   refine PJ.blockOut ?_
   obtain rfl := oi h14
   refine kW (L2 := [(8, .nl), (9, .vc 0)]) (H2 := [vecL (encI .i32) 1 21 s0.2]) hFH hFD [1] ?_
   exact kN [8, 9]
 ·refine kSR ?_
  refine kC 2 [8] ?_
  refine kEN ?_
  refine kX ?_
  obtain rfl := oi h0
  exact kV [0] hFn hFH hFD (v1 := .vc 0)
def sym_Digits (x0 : St22) (x1 : List Int) : Option (List Int) :=
 (Option.bind (loopN (fun (s0 : Int × (List Int)) => (bif (decide (s0.1 < (x1.length : Int))) then (bif inR s0.1 x1.length then (bif room (s0.2.length + (([(IntKind.wrap .i32 (x0.Zero_ + (IntKind.wrap .i32 (nth x1 s0.1))))] : List Int)).length) then (some (.inl ((IntKind.wrap .i64 (s0.1 + 1)), (s0.2 ++ (([(IntKind.wrap .i32 (x0.Zero_ + (IntKind.wrap .i32 (nth x1 s0.1))))] : List Int)))))) else none) else none) else (some (.inr s0.2)))) big (0, ([] : List Int))) fun (s1 : (List Int)) => (some s1))
theorem sym_Digits_ok {x0 : St22} {x1 : List Int} {r : List Int} (h : sym_Digits x0 x1 = some r) : SC Tryz.prog 41 [.agg (encSt22 x0), lsv (encI .u8) 1 x1] [] (lsv (encI .i32) 1 r) [] := by
 refine kFn (fn := Tryz.f41) (fun F hFn hFH hFD => ?_)
 unfold sym_Digits at h
 refine kSR ?_
 refine kC 2 [1,2,4] ?_
 refine kEN ?_
 refine kSR ?_
 refine kC 1 [1,2,4,5] ?_
 refine kEN ?_
 obtain ⟨s1, hy0, h0⟩ := bindS h
 refine K.cutN (by kernel_rfl) (fun (s1 : (List Int)) => ([(4, .nl), (5, .vc 0)], [vecL (encI .i32) 1 21 s1])) s1 ?_ ?_
 ·refine kSR ?_
  refine kC 3 [2,4,5,8,9,10] ?_
  refine kEN ?_
  refine kb 0 ?_
  refine J.wk (Wk.viv 5 1 21 (by kernel_rfl)) ?_
  refine kl (fun (s0 : Int × (List Int)) => ([(2, .ptr 0 0), (4, .nl), (5, .vc 1), (8, lsv (encI .u8) 1 x1), (9, .int .i64 (x1.length : Int)), (10, .int .i64 s0.1)], [.box (encSt22 x0), vecL (encI .i32) 1 21 s0.2])) hy0 [2, 4, 5, 8, 9, 10] (fun s0 x46 hs0 => ?_)
  refine kSR ?_
  refine kC 1 [2,4,5,8,9,10,11] ?_
  refine kEN ?_
  refine kS ?_
  refine kBJ 11 hs0 (fun h1 => ?_) (fun h2 => ?_)
  ·refine kT ?_
   refine kK ?_
   refine PJ.next ?_
   refine kS ?_
   refine kb 1 ?_
   refine kSR ?_
   obtain ⟨hm, h3⟩ := asrt h1
   refine kI 12 (encI_len .u8) hm ?_
   refine kC 2 [2,4,5,7,8,9,10] ?_
   refine kEN ?_
   refine kR ?_
   refine kC 7 [2,4,5,8,9,10,14,20] ?_
   obtain ⟨hm, h4⟩ := asrt h3
   refine RJ.rel (d := (some 21)) (ef := ⟨.vc 3, [1, 2], [(1, .gone), (3, .vec (s0.2.length + (([(IntKind.wrap .i32 (x0.Zero_ + (IntKind.wrap .i32 (nth x1 s0.1))))] : List Int)).length) 1 21 (s0.2.flatMap (encI .i32) ++ (([(IntKind.wrap .i32 (x0.Zero_ + (IntKind.wrap .i32 (nth x1 s0.1))))] : List Int)).flatMap (encI .i32)))]⟩) (ef' := ⟨.vc 3, [1, 2], [(1, .gone), (3, vecL (encI .i32) 1 21 (s0.2 ++ (([(IntKind.wrap .i32 (x0.Zero_ + (IntKind.wrap .i32 (nth x1 s0.1))))] : List Int))))]⟩) (c := room (s0.2.length + (([(IntKind.wrap .i32 (x0.Zero_ + (IntKind.wrap .i32 (nth x1 s0.1))))] : List Int)).length)) (tr2 := []) (H2 := [.box (encSt22 x0), .gone, vecL (encI .i32) 1 21 (([(IntKind.wrap .i32 (x0.Zero_ + (IntKind.wrap .i32 (nth x1 s0.1))))] : List Int)), vecL (encI .i32) 1 21 ((s0.2 ++ (([(IntKind.wrap .i32 (x0.Zero_ + (IntKind.wrap .i32 (nth x1 s0.1))))] : List Int))))]) (by kernel_rfl) hm (fun hc => N.app) (by kernel_rfl) ?_
   refine kC 1 [2,4,5,8,9,10] ?_
   refine kE ?_
   refine PJ.blockNormal ?_
   refine PJ.next ?_
   refine kR ?_
   refine kC 2 [2,4,5,8,9,10] ?_
   refine kE ?_
   obtain rfl := oi h4
   refine kW (L2 := [(2, .ptr 0 0), (4, .nl), (5, .vc 1), (8, lsv (encI .u8) 1 x1), (9, .int .i64 (x1.length : Int)), (10, .int .i64 (IntKind.wrap .i64 (s0.1 + 1)))]) (H2 := [.box (encSt22 x0), vecL (encI .i32) 1 21 ((s0.2 ++ (([(IntKind.wrap .i32 (x0.Zero_ + (IntKind.wrap .i32 (nth x1 s0.1))))] : List Int))))]) hFH hFD [0, 3] ?_
   exact kLN [2, 4, 5, 8, 9, 10]
  ·refine kF ?_
   refine K.exit 0 (by kernel_rfl) ?_
   refine PJ.passExit ?_
   obtain rfl := oi h2
   refine PJ.loopOut (fun e => nomatch e) (fun he0 => ?_)
   have h5 := congrArg some he0
   refine PJ.blockOut ?_
   obtain rfl := oi h5
   refine kW (L2 := [(4, .nl), (5, .vc 0)]) (H2 := [vecL (encI .i32) 1 21 s0.2]) hFH hFD [1] ?_
   exact kN [4, 5]
 ·refine kSR ?_
  refine kC 2 [4] ?_
  refine kEN ?_
  refine kX ?_
  obtain rfl := oi h0
  refine PJ.wk (Wk.freeze 0 (n := s1.length) (k := 1) (e := 21) (cs := s1.flatMap (encI .i32)) (by kernel_rfl)) ?_
  exact kZ hFn hFH hFD
def shape_spell : Nat → Int → Int → Option (List Int)
 | 0, _, _ => none
 | n + 1, x0, x1 => (Option.bind (Option.bind (bif (decide (x0 = 0)) then (some (decide (x1 < 1))) else (some false)) fun (s0 : Bool) => (bif s0 then (some (.inr ([] : List Int))) else (some (.inl ())))) (joinX fun (s1 : Unit) => (Option.bind (shape_spell n (IntKind.wrap .i64 (Int.tdiv x0 10)) (IntKind.wrap .i64 (x1 - 1))) fun y0 => (bif room (y0.length + (([(IntKind.wrap .u8 (Int.tmod x0 10))] : List Int)).length) then (some (y0 ++ (([(IntKind.wrap .u8 (Int.tmod x0 10))] : List Int)))) else none))))
theorem shape_spell_ok_o : ∀ (n : Nat) {x0 : Int} {x1 : Int} {r : List Int} (h : shape_spell n x0 x1 = some r), SC Tryz.prog 73 [.int .i64 x0, .int .i64 x1] [] (.vc 0) [vecL (encI .u8) 1 5 r] := by
 intro n
 induction n with
 | zero => intro x0 x1 r h; cases h
 | succ n ih =>
 intro x0 x1 r h
 refine kFn (fn := Tryz.f73) (fun F hFn hFH hFD => ?_)
 rw [shape_spell.eq_2] at h
 refine kSR ?_
 refine kC 1 [0,1,4] ?_
 refine kEN ?_
 obtain ⟨y1, hy0, h0⟩ := bindS h
 refine K.cutX (by kernel_rfl) (fun (s1 : Unit) => ([(0, .int .i64 x0), (1, .int .i64 x1), (4, .nl)], [])) y1 ?_ (fun s1 hs => ?_)
 ·obtain ⟨s0, hy1, h1⟩ := bindS hy0
  refine K.cutN (by kernel_rfl) (fun (s0 : Bool) => ([(0, .int .i64 x0), (1, .int .i64 x1), (4, .nl), (10, .bool s0)], [])) s0 ?_ ?_
  ·refine kR ?_
   refine kC 3 [0,1,4,7] ?_
   refine kB 7 hy1 (fun h2 => ?_) (fun h3 => ?_)
   ·refine kC 3 [0,1,4,10] ?_
    refine kE ?_
    obtain rfl := oi h2
    exact kN [0, 1, 4, 10]
   ·refine kC 3 [0,1,4,10] ?_
    refine kE ?_
    obtain rfl := oi h3
    exact kN [0, 1, 4, 10]
  ·refine kBJ 10 h1 (fun h4 => ?_) (fun h5 => ?_)
   ·refine kT ?_
    refine kSR ?_
    refine kC 1 [0,1,4] ?_
    refine kEN ?_
    refine kX ?_
    obtain rfl := oi h4
    have h6 := joinX_inr h0
    refine PJ.cutXr (fun e => nomatch e) ?_
    obtain rfl := oi h6
    refine PJ.wk (Wk.viv 4 1 5 (by kernel_rfl)) ?_
    exact kV [0] hFn hFH hFD (v1 := .vc 0)
   ·refine kF ?_
    refine kK ?_
    obtain rfl := oi h5
    exact kXl [0, 1, 4]
 ·subst hs
  have h7 := joinX_inl h0
  refine kSR ?_
  refine kC 4 [0,4,12,14] ?_
  obtain ⟨y0, hy2, h8⟩ := bindS h7
  refine kCG (some 15) (args := [.int .i64 (IntKind.wrap .i64 (Int.tdiv x0 10)), .int .i64 (IntKind.wrap .i64 (x1 - 1))]) (v := .vc 0) (H2 := [vecL (encI .u8) 1 5 y0]) [] (ih hy2) ?_
  refine kC 4 [4,15,19] ?_
  obtain ⟨hm, h9⟩ := asrt h8
  refine RJ.rel (d := (some 20)) (ef := ⟨.vc 2, [0, 1], [(0, .gone), (2, .vec (y0.length + (([(IntKind.wrap .u8 (Int.tmod x0 10))] : List Int)).length) 1 5 (y0.flatMap (encI .u8) ++ (([(IntKind.wrap .u8 (Int.tmod x0 10))] : List Int)).flatMap (encI .u8)))]⟩) (ef' := ⟨.vc 2, [0, 1], [(0, .gone), (2, vecL (encI .u8) 1 5 (y0 ++ (([(IntKind.wrap .u8 (Int.tmod x0 10))] : List Int))))]⟩) (c := roomB (y0.length + (([(IntKind.wrap .u8 (Int.tmod x0 10))] : List Int)).length)) (tr2 := []) (H2 := [.gone, vecL (encI .u8) 1 5 (([(IntKind.wrap .u8 (Int.tmod x0 10))] : List Int)), vecL (encI .u8) 1 5 ((y0 ++ (([(IntKind.wrap .u8 (Int.tmod x0 10))] : List Int))))]) (by kernel_rfl) (roomB_of_room hm) (fun hc => N.app) (by kernel_rfl) ?_
  refine kC 1 [4] ?_
  refine kEN ?_
  refine kX ?_
  obtain rfl := oi h9
  exact kV [2] hFn hFH hFD (v1 := .vc 2)
def shape_exponent (x0 : St22) (x1 : St25) (x2 : Int) : Option (List Int) :=
 (Option.bind (bif (decide (x2 < 0)) then (bif room ([x0.Minus_] : List Int).length then (some ((IntKind.wrap .i64 (0 - x2)), ([x0.Minus_] : List Int))) else none) else (bif x1.ExpPlus_ then (bif room ([x0.Plus_] : List Int).length then (some (x2, ([x0.Plus_] : List Int))) else none) else (some (x2, ([] : List Int))))) fun (s0 : Int × (List Int)) => (Option.bind (shape_count x1.Exp_) fun y1 => (Option.bind (shape_spell big s0.1 y1) fun y2 => (Option.bind (sym_Digits x0 y2) fun y0 => (bif room (s0.2.length + y0.length) then (some (s0.2 ++ y0)) else none)))))
theorem shape_exponent_ok {x0 : St22} {x1 : St25} {x2 : Int} {r : List Int} (h : shape_exponent x0 x1 x2 = some r) : SC Tryz.prog 42 [.agg (encSt22 x0), .agg (encSt25 x1), .int .i64 x2] [] (lsv (encI .i32) 1 r) [] := by
 refine kFn (fn := Tryz.f42) (fun F hFn hFH hFD => ?_)
 unfold shape_exponent at h
 refine kSR ?_
 refine kC 3 [2,3,4,6] ?_
 refine kEN ?_
 refine kSR ?_
 refine kC 1 [2,3,4,6,7] ?_
 refine kEN ?_
 obtain ⟨s0, hy0, h0⟩ := bindS h
 refine K.cutN (by kernel_rfl) (fun (s0 : Int × (List Int)) => ([(2, .int .i64 s0.1), (3, .ptr 0 0), (4, .ptr 1 0), (6, .nl), (7, .vc 2)], [.box (encSt22 x0), .box (encSt25 x1), vecL (encI .i32) 1 21 s0.2])) s0 ?_ ?_
 ·refine kb 0 ?_
  refine kSR ?_
  refine kC 3 [2,3,4,6,7,8] ?_
  refine kEN ?_
  refine kBJ 8 hy0 (fun h1 => ?_) (fun h2 => ?_)
  ·refine kT ?_
   refine kSR ?_
   refine kC 4 [2,3,4,6,7,11,14] ?_
   obtain ⟨hm, h3⟩ := asrt h1
   refine RJ.rel (d := (some 15)) (ef' := ⟨.vc 3, [2], [(3, .vec ([x0.Minus_] : List Int).length 1 21 (([x0.Minus_] : List Int).flatMap (encI .i32)))]⟩) (tr2 := []) (H2 := [.box (encSt22 x0), .box (encSt25 x1), vecL (encI .i32) 1 21 ([x0.Minus_] : List Int), vecL (encI .i32) 1 21 ([x0.Minus_] : List Int)]) (by kernel_rfl) hm (fun hc => rfl) (by kernel_rfl) ?_
   refine kC 1 [2,3,4,6,7] ?_
   refine kEN ?_
   refine kR ?_
   refine kC 3 [2,3,4,6,7] ?_
   refine kE ?_
   refine PJ.blockNormal ?_
   obtain rfl := oi h3
   refine kW (L2 := [(2, .int .i64 (IntKind.wrap .i64 (0 - x2))), (3, .ptr 0 0), (4, .ptr 1 0), (6, .nl), (7, .vc 2)]) (H2 := [.box (encSt22 x0), .box (encSt25 x1), vecL (encI .i32) 1 21 ([x0.Minus_] : List Int)]) hFH hFD [0, 1, 3] ?_
   exact kN [2, 3, 4, 6, 7]
  ·refine kF ?_
   refine kSR ?_
   refine kC 3 [2,3,4,6,7,18] ?_
   refine kEN ?_
   refine kBJ 18 h2 (fun h4 => ?_) (fun h5 => ?_)
   ·refine kT ?_
    refine kR ?_
    refine kC 4 [2,3,4,6,7,21,24] ?_
    obtain ⟨hm, h6⟩ := asrt h4
    refine RJ.rel (d := (some 25)) (ef' := ⟨.vc 3, [2], [(3, .vec ([x0.Plus_] : List Int).length 1 21 (([x0.Plus_] : List Int).flatMap (encI .i32)))]⟩) (tr2 := []) (H2 := [.box (encSt22 x0), .box (encSt25 x1), vecL (encI .i32) 1 21 ([x0.Plus_] : List Int), vecL (encI .i32) 1 21 ([x0.Plus_] : List Int)]) (by kernel_rfl) hm (fun hc => rfl) (by kernel_rfl) ?_
    refine kC 1 [2,3,4,6,7] ?_
    refine kE ?_
    refine PJ.blockNormal ?_
    obtain rfl := oi h6
    refine kW (L2 := [(2, .int .i64 x2), (3, .ptr 0 0), (4, .ptr 1 0), (6, .nl), (7, .vc 2)]) (H2 := [.box (encSt22 x0), .box (encSt25 x1), vecL (encI .i32) 1 21 ([x0.Plus_] : List Int)]) hFH hFD [0, 1, 3] ?_
    exact kN [2, 3, 4, 6, 7]
   ·refine kF ?_
    refine kK ?_
    refine PJ.blockNormal ?_
    obtain rfl := oi h5
    refine PJ.wk (Wk.viv 7 1 21 (by kernel_rfl)) ?_
    exact kN [2, 3, 4, 6, 7]
 ·refine kS ?_
  refine J.keep [2, 3, 4, 6, 7] (L2 := [(2, .int .i64 s0.1), (3, .ptr 0 0), (4, .ptr 1 0), (6, .nl), (7, .vc 2)]) (by kernel_rfl) ?_
  refine K.draw (by kernel_rfl) (by kernel_rfl) (by kernel_rfl) (H2 := [.box (encSt22 x0), .box (encSt25 x1), vecL (encI .i32) 1 21 s0.2, .res, .res, .res, .res]) (by kernel_rfl) (n := 3) (by kernel_rfl) ?_
  refine kD 5 ?_
  obtain ⟨y1, hy1, h7⟩ := bindS h0
  refine RJ.call0 (d := (some 31)) (f := 28) (args := [.int .i64 x1.Exp_]) (v := .int .i64 y1) (tr2 := [([], []), ([0, 1], []), ([], []), ([], []), ([2, 3], []), ([], [6, 7])]) (by kernel_rfl) (by kernel_rfl) (.cons (Le.refl _) .nil) (shape_count_ok hy1) (by kernel_rfl) ?_
  obtain ⟨y2, hy2, h8⟩ := bindS h7
  refine RJ.call0 (d := (some 32)) (f := 73) (args := [.int .i64 s0.1, .int .i64 y1]) (v := lsv (encI .u8) 1 y2) (tr2 := [([], []), ([0, 1], []), ([], []), ([], []), ([2, 3], []), ([], [6, 7]), ([], [8, 9])]) (by kernel_rfl) (by kernel_rfl) (.cons (Le.refl _) (.cons (Le.refl _) .nil)) (SC.frozen (shape_spell_ok_o big hy2)) (by kernel_rfl) ?_
  obtain ⟨y0, hy3, h9⟩ := bindS h8
  refine RJ.call0 (d := (some 33)) (f := 41) (args := [.agg (encSt22 x0), lsv (encI .u8) 1 y2]) (v := lsv (encI .i32) 1 y0) (tr2 := [([], []), ([0, 1], []), ([], []), ([], []), ([2, 3], []), ([], [6, 7]), ([], [8, 9]), ([], [10, 11])]) (by kernel_rfl) (by kernel_rfl) (.cons (Le.refl _) (.cons (Le.refl _) .nil)) (sym_Digits_ok hy3) (by kernel_rfl) ?_
  obtain ⟨hm, h10⟩ := asrt h9
  refine RJ.rel (d := (some 34)) (ef := ⟨.vc 6, [2], [(2, .gone), (6, .vec (s0.2.length + y0.length) 1 21 (s0.2.flatMap (encI .i32) ++ y0.flatMap (encI .i32)))]⟩) (ef' := ⟨.vc 6, [2], [(2, .gone), (6, vecL (encI .i32) 1 21 (s0.2 ++ y0))]⟩) (c := room (s0.2.length + y0.length)) (tr2 := [([], []), ([0, 1], []), ([], []), ([], []), ([2, 3], []), ([], [6, 7]), ([], [8, 9]), ([], [10, 11]), ([4, 5], [4, 5, 12, 13, 12, 13])]) (H2 := [.box (encSt22 x0), .box (encSt25 x1), .gone, .res, .res, .res, vecL (encI .i32) 1 21 (s0.2 ++ y0)]) (by kernel_rfl) hm (fun hc => N.app) (by kernel_rfl) ?_
  refine kD 1 ?_
  refine kEN ?_
  refine kX ?_
  obtain rfl := oi h10
  refine PJ.wk (Wk.freeze 6 (n := (s0.2 ++ y0).length) (k := 1) (e := 21) (cs := (s0.2 ++ y0).flatMap (encI .i32)) (by kernel_rfl)) ?_
  exact kZ hFn hFH hFD
def shape_Write (x0 : St22) (x1 : St25) (x2 : Int) (x3 : St28) : Option (List Int) :=
 (Option.bind (shape_Figures x1 x2 x3) fun y1 => (Option.bind (sym_Grouped x0 y1.1 x1.G1_ x1.G2_) fun y0 => (Option.bind (bif (decide ((y1.2.1.length : Int) > 0)) then (bif room (y0.length + ([x0.Dec_] : List Int).length) then (Option.bind (sym_Digits x0 y1.2.1) fun y2 => (bif room ((y0 ++ ([x0.Dec_] : List Int)).length + y2.length) then (some (((y0 ++ ([x0.Dec_] : List Int)) ++ y2))) else none)) else none) else (some y0)) fun (s0 : (List Int)) => (Option.bind (bif (decide (x1.Exp_ > 0)) then (bif room (s0.length + ([x0.Exp_] : List Int).length) then (Option.bind (shape_exponent x0 x1 y1.2.2) fun y3 => (bif room ((s0 ++ ([x0.Exp_] : List Int)).length + y3.length) then (some (((s0 ++ ([x0.Exp_] : List Int)) ++ y3))) else none)) else none) else (some s0)) fun (s1 : (List Int)) => (some s1)))))
theorem shape_Write_ok {x0 : St22} {x1 : St25} {x2 : Int} {x3 : St28} {r : List Int} (h : shape_Write x0 x1 x2 x3 = some r) : SC Tryz.prog 16 [.agg (encSt22 x0), .agg (encSt25 x1), .int .i64 x2, .agg (encSt28 x3)] [] (lsv (encI .i32) 1 r) [] := by
 refine kFn (fn := Tryz.f16) (fun F hFn hFH hFD => ?_)
 unfold shape_Write at h
 refine kSR ?_
 refine kC 4 [2,4,5,7,8] ?_
 refine kEN ?_
 refine kSR ?_
 refine kC 3 [4,5,8,14,15,16] ?_
 obtain ⟨y1, hy0, h0⟩ := bindS h
 refine kA 17 (shape_Figures_ok hy0) ?_
 refine kC 7 [4,5,8,9,10,11] ?_
 refine kEN ?_
 refine kSR ?_
 refine kC 6 [4,5,8,10,11,21,22,24,26] ?_
 obtain ⟨y0, hy1, h1⟩ := bindS h0
 refine kCG (some 27) (args := [.agg (encSt22 x0), lsv (encI .u8) 1 y1.1, .int .i64 x1.G1_, .int .i64 x1.G2_]) (v := .vc 3) (H2 := [.box (encSt22 x0), .box (encSt25 x1), .box (encSt28 x3), vecL (encI .i32) 1 21 y0]) [] (sym_Grouped_ok_o hy1) ?_
 refine kC 1 [4,5,8,10,11,12] ?_
 refine kEN ?_
 obtain ⟨s0, hy2, h2⟩ := bindS h1
 refine K.cutN (by kernel_rfl) (fun (s0 : (List Int)) => ([(4, .ptr 0 0), (5, .ptr 1 0), (8, .nl), (11, .int .i64 y1.2.2), (12, .vc 2)], [.box (encSt22 x0), .box (encSt25 x1), vecL (encI .i32) 1 21 s0])) s0 ?_ ?_
 ·refine kSR ?_
  refine kC 3 [4,5,8,10,11,12,30] ?_
  refine kEN ?_
  refine kBJ 30 hy2 (fun h3 => ?_) (fun h4 => ?_)
  ·refine kT ?_
   refine kSR ?_
   refine kC 4 [4,5,8,10,11,12,31,34] ?_
   obtain ⟨hm, h5⟩ := asrt h3
   refine RJ.rel (d := (some 35)) (ef := ⟨.vc 5, [3, 4], [(3, .gone), (5, .vec (y0.length + ([x0.Dec_] : List Int).length) 1 21 (y0.flatMap (encI .i32) ++ ([x0.Dec_] : List Int).flatMap (encI .i32)))]⟩) (ef' := ⟨.vc 5, [3, 4], [(3, .gone), (5, vecL (encI .i32) 1 21 (y0 ++ ([x0.Dec_] : List Int)))]⟩) (c := room (y0.length + ([x0.Dec_] : List Int).length)) (tr2 := []) (H2 := [.box (encSt22 x0), .box (encSt25 x1), .box (encSt28 x3), .gone, vecL (encI .i32) 1 21 ([x0.Dec_] : List Int), vecL (encI .i32) 1 21 (y0 ++ ([x0.Dec_] : List Int))]) (by kernel_rfl) hm (fun hc => N.app) (by kernel_rfl) ?_
   refine kC 1 [4,5,8,10,11,12] ?_
   refine kEN ?_
   refine kR ?_
   refine RJ.seg 3 [4, 5, 8, 11, 12, 36, 37, 38] (L2 := [(4, .ptr 0 0), (5, .ptr 1 0), (8, .nl), (11, .int .i64 y1.2.2), (12, .vc 5), (36, .vc 5), (37, .agg (encSt22 x0)), (38, lsv (encI .u8) 1 y1.2.1)]) (H2 := [.box (encSt22 x0), .box (encSt25 x1), .box (encSt28 x3), .gone, vecL (encI .i32) 1 21 ([x0.Dec_] : List Int), vecL (encI .i32) 1 21 (y0 ++ ([x0.Dec_] : List Int))]) (by kernel_rfl) ?_
   obtain ⟨y2, hy3, h6⟩ := bindS h5
   refine kA 39 (sym_Digits_ok hy3) ?_
   obtain ⟨hm, h7⟩ := asrt h6
   refine RJ.rel (d := (some 40)) (ef := ⟨.vc 6, [5], [(5, .gone), (6, .vec ((y0 ++ ([x0.Dec_] : List Int)).length + y2.length) 1 21 ((y0 ++ ([x0.Dec_] : List Int)).flatMap (encI .i32) ++ y2.flatMap (encI .i32)))]⟩) (ef' := ⟨.vc 6, [5], [(5, .gone), (6, vecL (encI .i32) 1 21 ((y0 ++ ([x0.Dec_] : List Int)) ++ y2))]⟩) (c := room ((y0 ++ ([x0.Dec_] : List Int)).length + y2.length)) (tr2 := []) (H2 := [.box (encSt22 x0), .box (encSt25 x1), .box (encSt28 x3), .gone, vecL (encI .i32) 1 21 ([x0.Dec_] : List Int), .gone, vecL (encI .i32) 1 21 (((y0 ++ ([x0.Dec_] : List Int)) ++ y2))]) (by kernel_rfl) hm (fun hc => N.app) (by kernel_rfl) ?_
   refine kC 1 [4,5,8,11,12] ?_
   refine kE ?_
   obtain rfl := oi h7
   refine kW (L2 := [(4, .ptr 0 0), (5, .ptr 1 0), (8, .nl), (11, .int .i64 y1.2.2), (12, .vc 2)]) (H2 := [.box (encSt22 x0), .box (encSt25 x1), vecL (encI .i32) 1 21 (((y0 ++ ([x0.Dec_] : List Int)) ++ y2))]) hFH hFD [0, 1, 6] ?_
   exact kN [4, 5, 8, 11, 12]
  ·refine kF ?_
   refine kK ?_
   obtain rfl := oi h4
   refine kW (L2 := [(4, .ptr 0 0), (5, .ptr 1 0), (8, .nl), (11, .int .i64 y1.2.2), (12, .vc 2)]) (H2 := [.box (encSt22 x0), .box (encSt25 x1), vecL (encI .i32) 1 21 y0]) hFH hFD [0, 1, 3] ?_
   exact kN [4, 5, 8, 11, 12]
 ·obtain ⟨s1, hy4, h8⟩ := bindS h2
  refine K.cutN (by kernel_rfl) (fun (s1 : (List Int)) => ([(8, .nl), (12, .vc 0)], [vecL (encI .i32) 1 21 s1])) s1 ?_ ?_
  ·refine kSR ?_
   refine kC 3 [4,5,8,11,12,43] ?_
   refine kEN ?_
   refine kBJ 43 hy4 (fun h9 => ?_) (fun h10 => ?_)
   ·refine kT ?_
    refine kSR ?_
    refine kC 4 [4,5,8,11,12,44,47] ?_
    obtain ⟨hm, h11⟩ := asrt h9
    refine RJ.rel (d := (some 48)) (ef := ⟨.vc 4, [2, 3], [(2, .gone), (4, .vec (s0.length + ([x0.Exp_] : List Int).length) 1 21 (s0.flatMap (encI .i32) ++ ([x0.Exp_] : List Int).flatMap (encI .i32)))]⟩) (ef' := ⟨.vc 4, [2, 3], [(2, .gone), (4, vecL (encI .i32) 1 21 (s0 ++ ([x0.Exp_] : List Int)))]⟩) (c := room (s0.length + ([x0.Exp_] : List Int).length)) (tr2 := []) (H2 := [.box (encSt22 x0), .box (encSt25 x1), .gone, vecL (encI .i32) 1 21 ([x0.Exp_] : List Int), vecL (encI .i32) 1 21 (s0 ++ ([x0.Exp_] : List Int))]) (by kernel_rfl) hm (fun hc => N.app) (by kernel_rfl) ?_
    refine kC 1 [4,5,8,11,12] ?_
    refine kEN ?_
    refine kR ?_
    refine kC 4 [8,12,49,50,51,52] ?_
    obtain ⟨y3, hy5, h12⟩ := bindS h11
    refine kA 53 (shape_exponent_ok hy5) ?_
    obtain ⟨hm, h13⟩ := asrt h12
    refine RJ.rel (d := (some 54)) (ef := ⟨.vc 5, [4], [(4, .gone), (5, .vec ((s0 ++ ([x0.Exp_] : List Int)).length + y3.length) 1 21 ((s0 ++ ([x0.Exp_] : List Int)).flatMap (encI .i32) ++ y3.flatMap (encI .i32)))]⟩) (ef' := ⟨.vc 5, [4], [(4, .gone), (5, vecL (encI .i32) 1 21 ((s0 ++ ([x0.Exp_] : List Int)) ++ y3))]⟩) (c := room ((s0 ++ ([x0.Exp_] : List Int)).length + y3.length)) (tr2 := []) (H2 := [.box (encSt22 x0), .box (encSt25 x1), .gone, vecL (encI .i32) 1 21 ([x0.Exp_] : List Int), .gone, vecL (encI .i32) 1 21 (((s0 ++ ([x0.Exp_] : List Int)) ++ y3))]) (by kernel_rfl) hm (fun hc => N.app) (by kernel_rfl) ?_
    refine kC 1 [8,12] ?_
    refine kE ?_
    obtain rfl := oi h13
    refine kW (L2 := [(8, .nl), (12, .vc 0)]) (H2 := [vecL (encI .i32) 1 21 (((s0 ++ ([x0.Exp_] : List Int)) ++ y3))]) hFH hFD [5] ?_
    exact kN [8, 12]
   ·refine kF ?_
    refine kK ?_
    obtain rfl := oi h10
    refine kW (L2 := [(8, .nl), (12, .vc 0)]) (H2 := [vecL (encI .i32) 1 21 s0]) hFH hFD [2] ?_
    exact kN [8, 12]
  ·refine kSR ?_
   refine kC 2 [8] ?_
   refine kEN ?_
   refine kX ?_
   obtain rfl := oi h8
   refine PJ.wk (Wk.freeze 0 (n := s1.length) (k := 1) (e := 21) (cs := s1.flatMap (encI .i32)) (by kernel_rfl)) ?_
   exact kZ hFn hFH hFD
def slices_Index (x0 : List Int) (x1 : Int) : Option (Int) :=
 (Option.bind (loopN (fun (s0 : Int) => (bif (decide (s0 < (x0.length : Int))) then (bif inR s0 x0.length then (bif (decide (x1 = (nth x0 s0))) then (some (.inr (.inr s0))) else (some (.inl (IntKind.wrap .i64 (s0 + 1))))) else none) else (some (.inr (.inl ()))))) big 0) (joinX fun (s1 : Unit) => (some (-1))))
theorem slices_Index_ok {x0 : List Int} {x1 : Int} {r : Int} (h : slices_Index x0 x1 = some r) : SC Tryz.prog 74 [lsv (encI .i32) 1 x0, .int .i32 x1] [] (.int .i64 r) [] := by
 refine kFn (fn := Tryz.f74) (fun F hFn hFH hFD => ?_)
 unfold slices_Index at h
 refine kSR ?_
 refine kC 1 [0,1,4] ?_
 refine kEN ?_
 obtain ⟨y0, hy0, h0⟩ := bindS h
 refine K.cutX (by kernel_rfl) (fun (s1 : Unit) => ([(4, .int .i64 0)], [])) y0 ?_ (fun s1 hs => ?_)
 ·refine kSR ?_
  refine kC 3 [0,1,4,7,8] ?_
  refine kEN ?_
  refine kb 0 ?_
  refine kl (fun (s0 : Int) => ([(0, lsv (encI .i32) 1 x0), (1, .int .i32 x1), (4, .int .i64 0), (7, .int .i64 (x0.length : Int)), (8, .int .i64 s0)], [])) hy0 [0, 1, 4, 7, 8] (fun s0 x71 hs0 => ?_)
  refine kSR ?_
  refine kC 1 [0,1,4,7,8,9] ?_
  refine kEN ?_
  refine kS ?_
  refine kBJ 9 hs0 (fun h1 => ?_) (fun h2 => ?_)
  ·refine kT ?_
   refine kK ?_
   refine PJ.next ?_
   refine kS ?_
   refine kb 1 ?_
   refine kSR ?_
   refine kC 2 [0,1,4,5,7,8] ?_
   refine kEN ?_
   refine kSR ?_
   refine kC 3 [0,1,4,5,7,8,11,12,13] ?_
   obtain ⟨hm, h3⟩ := asrt h1
   refine kI 14 (encI_len .i32) hm ?_
   refine kC 2 [0,1,4,5,7,8,16] ?_
   refine kEN ?_
   refine kBJ 16 h3 (fun h4 => ?_) (fun h5 => ?_)
   ·refine kT ?_
    refine kSR ?_
    refine kC 2 [0,1,4,7,8] ?_
    refine kEN ?_
    refine kX ?_
    refine PJ.blockRet ?_
    refine PJ.passRet ?_
    obtain rfl := oi h4
    refine PJ.loopOut (fun e => nomatch e) (fun he0 => ?_)
    have h6 := congrArg some he0
    refine PJ.blockRet ?_
    obtain rfl := oi h6
    have h7 := joinX_inr h0
    refine PJ.cutXr (fun e => nomatch e) ?_
    obtain rfl := oi h7
    exact kZ hFn hFH hFD
   ·refine kF ?_
    refine kK ?_
    refine PJ.blockNormal ?_
    refine PJ.next ?_
    refine kR ?_
    refine kC 2 [0,1,4,7,8] ?_
    refine kE ?_
    obtain rfl := oi h5
    exact kLN [0, 1, 4, 7, 8]
  ·refine kF ?_
   refine K.exit 0 (by kernel_rfl) ?_
   refine PJ.passExit ?_
   obtain rfl := oi h2
   refine PJ.loopOut (fun e => nomatch e) (fun he1 => ?_)
   have h8 := congrArg some he1
   refine PJ.blockOut ?_
   obtain rfl := oi h8
   exact kXl [4]
 ·subst hs
  have h9 := joinX_inl h0
  refine kSR ?_
  refine kC 1 [4] ?_
  refine kEN ?_
  refine kX ?_
  obtain rfl := oi h9
  exact kZ hFn hFH hFD
def sym_Value (x0 : St22) (x1 : Int) : Option (Int × Bool) :=
 (Option.bind (Option.bind (bif (decide (((IntKind.wrap .i64 ((IntKind.wrap .i64 x1) - (IntKind.wrap .i64 x0.Zero_)))) < 0)) then (some true) else (some ((decide (((IntKind.wrap .i64 ((IntKind.wrap .i64 x1) - (IntKind.wrap .i64 x0.Zero_)))) > 9))))) fun (s0 : Bool) => (bif s0 then (some (.inr (0, false))) else (some (.inl ())))) (joinX fun (s1 : Unit) => (some ((IntKind.wrap .u8 ((IntKind.wrap .i64 ((IntKind.wrap .i64 x1) - (IntKind.wrap .i64 x0.Zero_))))), true))))
theorem sym_Value_ok {x0 : St22} {x1 : Int} {r : Int × Bool} (h : sym_Value x0 x1 = some r) : SC Tryz.prog 77 [.agg (encSt22 x0), .int .i32 x1] [] (.tup [.int .u8 r.1, .bool r.2]) [] := by
 refine kFn (fn := Tryz.f77) (fun F hFn hFH hFD => ?_)
 unfold sym_Value at h
 refine kSR ?_
 refine kC 3 [1,2,4,5] ?_
 refine kEN ?_
 refine kSR ?_
 refine kC 7 [4,5,6] ?_
 refine kEN ?_
 obtain ⟨y0, hy0, h0⟩ := bindS h
 refine K.cutX (by kernel_rfl) (fun (s1 : Unit) => ([(4, .int .u8 0), (5, .bool false), (6, .int .i64 ((IntKind.wrap .i64 ((IntKind.wrap .i64 x1) - (IntKind.wrap .i64 x0.Zero_)))))], [])) y0 ?_ (fun s1 hs => ?_)
 ·obtain ⟨s0, hy1, h1⟩ := bindS hy0
  refine K.cutN (by kernel_rfl) (fun (s0 : Bool) => ([(4, .int .u8 0), (5, .bool false), (6, .int .i64 ((IntKind.wrap .i64 ((IntKind.wrap .i64 x1) - (IntKind.wrap .i64 x0.Zero_))))), (18, .bool s0)], [])) s0 ?_ ?_
  ·refine kR ?_
   refine kC 3 [4,5,6,15] ?_
   refine kB 15 hy1 (fun h2 => ?_) (fun h3 => ?_)
   ·refine kC 3 [4,5,6,18] ?_
    refine kE ?_
    obtain rfl := oi h2
    refine kW (L2 := [(4, .int .u8 0), (5, .bool false), (6, .int .i64 ((IntKind.wrap .i64 ((IntKind.wrap .i64 x1) - (IntKind.wrap .i64 x0.Zero_))))), (18, .bool true)]) (H2 := []) hFH hFD [] ?_
    exact kN [4, 5, 6, 18]
   ·refine kC 3 [4,5,6,18] ?_
    refine kE ?_
    obtain rfl := oi h3
    refine kW (L2 := [(4, .int .u8 0), (5, .bool false), (6, .int .i64 ((IntKind.wrap .i64 ((IntKind.wrap .i64 x1) - (IntKind.wrap .i64 x0.Zero_))))), (18, .bool ((decide (((IntKind.wrap .i64 ((IntKind.wrap .i64 x1) - (IntKind.wrap .i64 x0.Zero_)))) > 9))))]) (H2 := []) hFH hFD [] ?_
    exact kN [4, 5, 6, 18]
  ·refine kBJ 18 h1 (fun h4 => ?_) (fun h5 => ?_)
   ·refine kT ?_
    refine kSR ?_
    refine kC 2 [4,5,6] ?_
    refine kEN ?_
    refine kX ?_
    obtain rfl := oi h4
    have h6 := joinX_inr h0
    refine PJ.cutXr (fun e => nomatch e) ?_
    obtain rfl := oi h6
    exact kZ hFn hFH hFD
   ·refine kF ?_
    refine kK ?_
    obtain rfl := oi h5
    exact kXl [4, 5, 6]
 ·subst hs
  have h7 := joinX_inl h0
  refine kSR ?_
  refine kC 4 [4,5] ?_
  refine kEN ?_
  refine kX ?_
  obtain rfl := oi h7
  exact kZ hFn hFH hFD
def shape_figures (x0 : St22) (x1 : List Int) : Option ((List Int) × Bool) :=
 (Option.bind (loopN (fun (s0 : Int × (List Int)) => (bif (decide (s0.1 < (x1.length : Int))) then (bif inR s0.1 x1.length then (Option.bind (sym_Value x0 (nth x1 s0.1)) fun y0 => (bif (!y0.2) then (some (.inr (.inr (([] : List Int), false)))) else (bif room (s0.2.length + ([y0.1] : List Int).length) then (some (.inl ((IntKind.wrap .i64 (s0.1 + 1)), (s0.2 ++ ([y0.1] : List Int))))) else none))) else none) else (some (.inr (.inl s0.2))))) big (0, ([] : List Int))) (joinX fun (s1 : (List Int)) => (some (s1, true))))
theorem shape_figures_ok {x0 : St22} {x1 : List Int} {r : (List Int) × Bool} (h : shape_figures x0 x1 = some r) : SC Tryz.prog 76 [.agg (encSt22 x0), lsv (encI .i32) 1 x1] [] (.tup [lsv (encI .u8) 1 r.1, .bool r.2]) [] := by
 refine kFn (fn := Tryz.f76) (fun F hFn hFH hFD => ?_)
 unfold shape_figures at h
 refine kSR ?_
 refine kC 3 [1,2,4,5] ?_
 refine kEN ?_
 refine kSR ?_
 refine kC 1 [1,2,4,5,6] ?_
 refine kEN ?_
 obtain ⟨y1, hy0, h0⟩ := bindS h
 refine K.cutX (by kernel_rfl) (fun (s1 : (List Int)) => ([(4, .nl), (5, .bool false), (6, .vc 0)], [vecL (encI .u8) 1 5 s1])) y1 ?_ (fun s1 hs => ?_)
 ·refine kSR ?_
  refine kC 3 [2,4,5,6,11,12,13] ?_
  refine kEN ?_
  refine kb 0 ?_
  refine J.wk (Wk.viv 6 1 5 (by kernel_rfl)) ?_
  refine kl (fun (s0 : Int × (List Int)) => ([(2, .ptr 0 0), (4, .nl), (5, .bool false), (6, .vc 1), (11, lsv (encI .i32) 1 x1), (12, .int .i64 (x1.length : Int)), (13, .int .i64 s0.1)], [.box (encSt22 x0), vecL (encI .u8) 1 5 s0.2])) hy0 [2, 4, 5, 6, 11, 12, 13] (fun s0 x91 hs0 => ?_)
  refine kSR ?_
  refine kC 1 [2,4,5,6,11,12,13,14] ?_
  refine kEN ?_
  refine kS ?_
  refine kBJ 14 hs0 (fun h1 => ?_) (fun h2 => ?_)
  ·refine kT ?_
   refine kK ?_
   refine PJ.next ?_
   refine kS ?_
   refine kb 1 ?_
   refine kSR ?_
   obtain ⟨hm, h3⟩ := asrt h1
   refine kI 15 (encI_len .i32) hm ?_
   refine kC 2 [2,4,5,6,8,11,12,13] ?_
   refine kEN ?_
   refine kSR ?_
   refine kC 2 [2,4,5,6,11,12,13,18,19] ?_
   obtain ⟨y0, hy1, h4⟩ := bindS h3
   refine kA 20 (sym_Value_ok hy1) ?_
   refine kC 5 [2,4,5,6,9,10,11,12,13] ?_
   refine kEN ?_
   refine kS ?_
   refine kSR ?_
   refine kC 2 [2,4,5,6,9,11,12,13,24] ?_
   refine kEN ?_
   refine kBJ 24 h4 (fun h5 => ?_) (fun h6 => ?_)
   ·refine kT ?_
    refine kSR ?_
    refine kC 2 [2,4,5,6,9,11,12,13] ?_
    refine kEN ?_
    refine kX ?_
    refine PJ.passRet ?_
    refine PJ.blockRet ?_
    refine PJ.passRet ?_
    obtain rfl := oi h5
    refine PJ.loopOut (fun e => nomatch e) (fun he0 => ?_)
    have h7 := congrArg some he0
    refine PJ.blockRet ?_
    obtain rfl := oi h7
    have h8 := joinX_inr h0
    refine PJ.cutXr (fun e => nomatch e) ?_
    obtain rfl := oi h8
    refine PJ.res (v1 := .tup [.nl, .bool false]) (Le.tup (.cons (Le.nl _) (.cons (Le.refl _) .nil))) ?_
    exact kZ hFn hFH hFD
   ·refine kF ?_
    refine kK ?_
    refine PJ.next ?_
    refine kR ?_
    refine kC 3 [2,4,5,6,11,12,13,25,27] ?_
    obtain ⟨hm, h9⟩ := asrt h6
    refine RJ.rel (d := (some 28)) (ef := ⟨.vc 3, [1, 2], [(1, .gone), (3, .vec (s0.2.length + ([y0.1] : List Int).length) 1 5 (s0.2.flatMap (encI .u8) ++ ([y0.1] : List Int).flatMap (encI .u8)))]⟩) (ef' := ⟨.vc 3, [1, 2], [(1, .gone), (3, vecL (encI .u8) 1 5 (s0.2 ++ ([y0.1] : List Int)))]⟩) (c := roomB (s0.2.length + ([y0.1] : List Int).length)) (tr2 := []) (H2 := [.box (encSt22 x0), .gone, vecL (encI .u8) 1 5 ([y0.1] : List Int), vecL (encI .u8) 1 5 (s0.2 ++ ([y0.1] : List Int))]) (by kernel_rfl) (roomB_of_room hm) (fun hc => N.app) (by kernel_rfl) ?_
    refine kC 1 [2,4,5,6,11,12,13] ?_
    refine kE ?_
    refine PJ.blockNormal ?_
    refine PJ.next ?_
    refine kR ?_
    refine kC 2 [2,4,5,6,11,12,13] ?_
    refine kE ?_
    obtain rfl := oi h9
    refine kW (L2 := [(2, .ptr 0 0), (4, .nl), (5, .bool false), (6, .vc 1), (11, lsv (encI .i32) 1 x1), (12, .int .i64 (x1.length : Int)), (13, .int .i64 (IntKind.wrap .i64 (s0.1 + 1)))]) (H2 := [.box (encSt22 x0), vecL (encI .u8) 1 5 (s0.2 ++ ([y0.1] : List Int))]) hFH hFD [0, 3] ?_
    exact kLN [2, 4, 5, 6, 11, 12, 13]
  ·refine kF ?_
   refine K.exit 0 (by kernel_rfl) ?_
   refine PJ.passExit ?_
   obtain rfl := oi h2
   refine PJ.loopOut (fun e => nomatch e) (fun he1 => ?_)
   have h10 := congrArg some he1
   refine PJ.blockOut ?_
   obtain rfl := oi h10
   refine kW (L2 := [(4, .nl), (5, .bool false), (6, .vc 0)]) (H2 := [vecL (encI .u8) 1 5 s0.2]) hFH hFD [1] ?_
   exact kXl [4, 5, 6]
 ·subst hs
  have h11 := joinX_inl h0
  refine kSR ?_
  refine kC 3 [4,5] ?_
  refine kEN ?_
  refine kX ?_
  obtain rfl := oi h11
  refine PJ.wk (Wk.freeze 0 (n := s1.length) (k := 1) (e := 5) (cs := s1.flatMap (encI .u8)) (by kernel_rfl)) ?_
  exact kZ hFn hFH hFD
def shape_readPower (x0 : St22) (x1 : List Int) : Option (Int × Bool) :=
 (Option.bind (Option.bind (bif (decide ((x1.length : Int) > 0)) then (bif inR 0 x1.length then (bif (decide ((nth x1 0) = x0.Minus_)) then (some true) else (bif inR 0 x1.length then (some ((decide ((nth x1 0) = x0.Plus_)))) else none)) else none) else (some false)) fun (s3 : Bool) => (bif s3 then (Option.bind (bif inR 0 x1.length then (bif (decide ((nth x1 0) = x0.Minus_)) then (some (-1)) else (some 1)) else none) fun (s4 : Int) => (bif inS 1 (x1.length : Int) x1.length then (some ((cut x1 1 (x1.length : Int)), s4)) else none)) else (some (x1, 1)))) fun (s0 : (List Int) × Int) => (Option.bind (shape_figures x0 s0.1) fun y0 => (Option.bind (Option.bind (bif (!y0.2) then (some true) else (bif (decide ((y0.1.length : Int) = 0)) then (some true) else (some ((decide ((y0.1.length : Int) > 40)))))) fun (s5 : Bool) => (bif s5 then (some (.inr (0, false))) else (some (.inl ())))) (joinX fun (s6 : Unit) => (Option.bind (loopN (fun (s1 : Int × Int) => (bif (decide (s1.2 < (y0.1.length : Int))) then (bif inR s1.2 y0.1.length then (some (.inl ((minI ((IntKind.wrap .i64 ((IntKind.wrap .i64 (s1.1 * 10)) + (IntKind.wrap .i64 (nth y0.1 s1.2))))) 100001), (IntKind.wrap .i64 (s1.2 + 1))))) else none) else (some (.inr s1.1)))) big (0, 0)) fun (s2 : Int) => (some ((IntKind.wrap .i64 (s0.2 * s2)), (decide (s2 ≤ 100000)))))))))
theorem shape_readPower_ok {x0 : St22} {x1 : List Int} {r : Int × Bool} (h : shape_readPower x0 x1 = some r) : SC Tryz.prog 75 [.agg (encSt22 x0), lsv (encI .i32) 1 x1] [] (.tup [.int .i64 r.1, .bool r.2]) [] := by
 refine kFn (fn := Tryz.f75) (fun F hFn hFH hFD => ?_)
 unfold shape_readPower at h
 refine kSR ?_
 refine kC 3 [1,2,4,5] ?_
 refine kEN ?_
 refine kSR ?_
 refine kC 1 [1,2,4,5,6] ?_
 refine kEN ?_
 obtain ⟨s0, hy0, h1⟩ := bindS h
 refine K.cutN (by kernel_rfl) (fun (s0 : (List Int) × Int) => ([(1, lsv (encI .i32) 1 s0.1), (2, .ptr 0 0), (4, .int .i64 0), (5, .bool false), (6, .int .i64 s0.2)], [.box (encSt22 x0)])) s0 ?_ ?_
 ·obtain ⟨s3, hy1, h2⟩ := bindS hy0
  refine K.cutN (by kernel_rfl) (fun (s3 : Bool) => ([(1, lsv (encI .i32) 1 x1), (2, .ptr 0 0), (4, .int .i64 0), (5, .bool false), (6, .int .i64 1), (30, .bool s3)], [.box (encSt22 x0)])) s3 ?_ ?_
  ·refine J.keep [1, 2, 4, 5, 6] (L2 := [(1, lsv (encI .i32) 1 x1), (2, .ptr 0 0), (4, .int .i64 0), (5, .bool false), (6, .int .i64 1)]) (by kernel_rfl) ?_
   refine K.draw (by kernel_rfl) (by kernel_rfl) (by kernel_rfl) (H2 := [.box (encSt22 x0)]) (by kernel_rfl) (n := 1) (by kernel_rfl) ?_
   refine kD 4 ?_
   refine kB 15 hy1 (fun h3 => ?_) (fun h4 => ?_)
   ·refine kD 1 ?_
    obtain ⟨hm, h5⟩ := asrt h3
    refine kJ 17 (tr2 := [([], []), ([], []), ([], []), ([], []), ([], []), ([], [])]) (encI_len .i32) hm ?_
    refine kD 5 ?_
    refine kB 22 h5 (fun h6 => ?_) (fun h7 => ?_)
    ·refine kD 8 ?_
     refine kE ?_
     obtain rfl := oi h6
     exact kN [1, 2, 4, 5, 6, 30]
    ·refine kD 1 ?_
     obtain ⟨hm, h8⟩ := asrt h7
     refine kJ 24 (tr2 := [([], []), ([], []), ([], []), ([], []), ([], []), ([], []), ([], []), ([], []), ([0, 1], []), ([], []), ([], []), ([], []), ([], [])]) (encI_len .i32) hm ?_
     refine kD 6 ?_
     refine kE ?_
     obtain rfl := oi h8
     exact kN [1, 2, 4, 5, 6, 30]
   ·refine kD 15 ?_
    refine kE ?_
    obtain rfl := oi h4
    exact kN [1, 2, 4, 5, 6, 30]
  ·refine kBJ 30 h2 (fun h9 => ?_) (fun h10 => ?_)
   ·refine kT ?_
    obtain ⟨s4, hy2, h11⟩ := bindS h9
    refine K.cutN (by kernel_rfl) (fun (s4 : Int) => ([(1, lsv (encI .i32) 1 x1), (2, .ptr 0 0), (4, .int .i64 0), (5, .bool false), (6, .int .i64 s4)], [.box (encSt22 x0)])) s4 ?_ ?_
    ·refine kS ?_
     refine J.keep [1, 2, 4, 5, 6] (L2 := [(1, lsv (encI .i32) 1 x1), (2, .ptr 0 0), (4, .int .i64 0), (5, .bool false), (6, .int .i64 1)]) (by kernel_rfl) ?_
     refine K.draw (by kernel_rfl) (by kernel_rfl) (by kernel_rfl) (H2 := [.box (encSt22 x0)]) (by kernel_rfl) (n := 1) (by kernel_rfl) ?_
     refine kD 1 ?_
     obtain ⟨hm, h12⟩ := asrt hy2
     refine kJ 32 (tr2 := [([], []), ([], [])]) (encI_len .i32) hm ?_
     refine kD 4 ?_
     refine kEN ?_
     refine kBJ 36 h12 (fun h13 => ?_) (fun h14 => ?_)
     ·refine kT ?_
      refine kR ?_
      refine kC 1 [1,2,4,5,6] ?_
      refine kE ?_
      obtain rfl := oi h13
      exact kN [1, 2, 4, 5, 6]
     ·refine kF ?_
      refine kK ?_
      obtain rfl := oi h14
      exact kN [1, 2, 4, 5, 6]
    ·refine kR ?_
     refine kC 1 [1,2,4,5,6,37] ?_
     obtain ⟨hm, h15⟩ := asrt h11
     refine RJ.rel (d := (some 38)) (ef := ⟨.lst (((x1.length : Int) : Int).toNat - (1 : Int).toNat) 1 (((x1.flatMap (encI .i32)).take (((x1.length : Int) : Int).toNat * 1)).drop ((1 : Int).toNat * 1)), [], []⟩) (ef' := ⟨.lst (cut x1 1 (x1.length : Int)).length 1 ((cut x1 1 (x1.length : Int)).flatMap (encI .i32)), [], []⟩) (c := inS 1 (x1.length : Int) x1.length) (tr2 := []) (H2 := [.box (encSt22 x0)]) (by kernel_rfl) hm (fun hc => N.slice (encI_len .i32) hc) (by kernel_rfl) ?_
     refine kC 1 [1,2,4,5,6] ?_
     refine kE ?_
     obtain rfl := oi h15
     exact kN [1, 2, 4, 5, 6]
   ·refine kF ?_
    refine kK ?_
    obtain rfl := oi h10
    exact kN [1, 2, 4, 5, 6]
 ·refine kSR ?_
  refine kC 2 [4,5,6,40,41] ?_
  obtain ⟨y0, hy3, h16⟩ := bindS h1
  refine kA 42 (shape_figures_ok hy3) ?_
  refine kC 5 [4,5,6,7,8] ?_
  refine kEN ?_
  obtain ⟨y1, hy4, h0⟩ := bindS h16
  refine K.cutX (by kernel_rfl) (fun (s6 : Unit) => ([(4, .int .i64 0), (5, .bool false), (6, .int .i64 s0.2), (7, lsv (encI .u8) 1 y0.1)], [])) y1 ?_ (fun s6 hs => ?_)
  ·obtain ⟨s5, hy5, h17⟩ := bindS hy4
   refine K.cutN (by kernel_rfl) (fun (s5 : Bool) => ([(4, .int .i64 0), (5, .bool false), (6, .int .i64 s0.2), (7, lsv (encI .u8) 1 y0.1), (56, .bool s5)], [])) s5 ?_ ?_
   ·refine kR ?_
    refine kC 3 [4,5,6,7,47] ?_
    refine kB 47 hy5 (fun h18 => ?_) (fun h19 => ?_)
    ·refine kC 9 [4,5,6,7,56] ?_
     refine kE ?_
     obtain rfl := oi h18
     refine kW (L2 := [(4, .int .i64 0), (5, .bool false), (6, .int .i64 s0.2), (7, lsv (encI .u8) 1 y0.1), (56, .bool true)]) (H2 := []) hFH hFD [] ?_
     exact kN [4, 5, 6, 7, 56]
    ·refine kC 5 [4,5,6,7,52] ?_
     refine kB 52 h19 (fun h20 => ?_) (fun h21 => ?_)
     ·refine kC 4 [4,5,6,7,56] ?_
      refine kE ?_
      obtain rfl := oi h20
      refine kW (L2 := [(4, .int .i64 0), (5, .bool false), (6, .int .i64 s0.2), (7, lsv (encI .u8) 1 y0.1), (56, .bool true)]) (H2 := []) hFH hFD [] ?_
      exact kN [4, 5, 6, 7, 56]
     ·refine kC 4 [4,5,6,7,56] ?_
      refine kE ?_
      obtain rfl := oi h21
      refine kW (L2 := [(4, .int .i64 0), (5, .bool false), (6, .int .i64 s0.2), (7, lsv (encI .u8) 1 y0.1), (56, .bool ((decide ((y0.1.length : Int) > 40))))]) (H2 := []) hFH hFD [] ?_
      exact kN [4, 5, 6, 7, 56]
   ·refine kBJ 56 h17 (fun h22 => ?_) (fun h23 => ?_)
    ·refine kT ?_
     refine kSR ?_
     refine kC 2 [4,5,6,7] ?_
     refine kEN ?_
     refine kX ?_
     obtain rfl := oi h22
     have h24 := joinX_inr h0
     refine PJ.cutXr (fun e => nomatch e) ?_
     obtain rfl := oi h24
     exact kZ hFn hFH hFD
    ·refine kF ?_
     refine kK ?_
     obtain rfl := oi h23
     exact kXl [4, 5, 6, 7]
  ·subst hs
   have h25 := joinX_inl h0
   refine kSR ?_
   refine kC 1 [4,5,6,7,9] ?_
   refine kEN ?_
   obtain ⟨s2, hy6, h26⟩ := bindS h25
   refine K.cutN (by kernel_rfl) (fun (s2 : Int) => ([(4, .int .i64 0), (5, .bool false), (6, .int .i64 s0.2), (9, .int .i64 s2)], [])) s2 ?_ ?_
   ·refine kSR ?_
    refine kC 3 [4,5,6,9,57,58,59] ?_
    refine kEN ?_
    refine kb 0 ?_
    refine kl (fun (s1 : Int × Int) => ([(4, .int .i64 0), (5, .bool false), (6, .int .i64 s0.2), (9, .int .i64 s1.1), (57, lsv (encI .u8) 1 y0.1), (58, .int .i64 (y0.1.length : Int)), (59, .int .i64 s1.2)], [])) hy6 [4, 5, 6, 9, 57, 58, 59] (fun s1 x172 hs0 => ?_)
    refine kSR ?_
    refine kC 1 [4,5,6,9,57,58,59,60] ?_
    refine kEN ?_
    refine kS ?_
    refine kBJ 60 hs0 (fun h27 => ?_) (fun h28 => ?_)
    ·refine kT ?_
     refine kK ?_
     refine PJ.next ?_
     refine kS ?_
     refine kb 1 ?_
     refine kSR ?_
     obtain ⟨hm, h29⟩ := asrt h27
     refine kI 61 (encI_len .u8) hm ?_
     refine kC 2 [4,5,6,9,11,57,58,59] ?_
     refine kEN ?_
     refine kR ?_
     refine kC 7 [4,5,6,9,57,58,59] ?_
     refine kE ?_
     refine PJ.blockNormal ?_
     refine PJ.next ?_
     refine kR ?_
     refine kC 2 [4,5,6,9,57,58,59] ?_
     refine kE ?_
     obtain rfl := oi h29
     exact kLN [4, 5, 6, 9, 57, 58, 59]
    ·refine kF ?_
     refine K.exit 0 (by kernel_rfl) ?_
     refine PJ.passExit ?_
     obtain rfl := oi h28
     refine PJ.loopOut (fun e => nomatch e) (fun he0 => ?_)
     have h30 := congrArg some he0
     refine PJ.blockOut ?_
     obtain rfl := oi h30
     exact kN [4, 5, 6, 9]
   ·refine kSR ?_
    refine kC 7 [4,5] ?_
    refine kEN ?_
    refine kX ?_
    obtain rfl := oi h26
    exact kZ hFn hFH hFD
def shape_cutPower (x0 : St22) (x1 : St25) (x2 : List Int) : Option ((List Int) × Int × Bool) :=
 (bif (decide (x1.Exp_ < 1)) then (some (x2, 0, true)) else (Option.bind (slices_Index x2 x0.Exp_) fun y0 => (bif (decide (y0 < 0)) then (some (([] : List Int), 0, false)) else (bif inS (IntKind.wrap .i64 (y0 + 1)) (x2.length : Int) x2.length then (Option.bind (shape_readPower x0 ((cut x2 (IntKind.wrap .i64 (y0 + 1)) (x2.length : Int)))) fun y1 => (bif inS 0 y0 x2.length then (some ((cut x2 0 y0), y1.1, y1.2)) else none)) else none))))
theorem shape_cutPower_ok {x0 : St22} {x1 : St25} {x2 : List Int} {r : (List Int) × Int × Bool} (h : shape_cutPower x0 x1 x2 = some r) : SC Tryz.prog 46 [.agg (encSt22 x0), .agg (encSt25 x1), lsv (encI .i32) 1 x2] [] (.tup [lsv (encI .i32) 1 r.1, .int .i64 r.2.1, .bool r.2.2]) [] := by
 refine kFn (fn := Tryz.f46) (fun F hFn hFH hFD => ?_)
 unfold shape_cutPower at h
 refine kSR ?_
 refine kC 5 [2,3,4,6,7,8] ?_
 refine kEN ?_
 refine kS ?_
 refine kSR ?_
 refine kC 3 [2,3,6,7,8,14] ?_
 refine kEN ?_
 refine kBJ 14 h (fun h0 => ?_) (fun h1 => ?_)
 ·refine kT ?_
  refine kSR ?_
  refine kC 4 [2,3,6,7,8] ?_
  refine kEN ?_
  refine kX ?_
  refine PJ.passRet ?_
  obtain rfl := oi h0
  exact kZ hFn hFH hFD
 ·refine kF ?_
  refine kK ?_
  refine PJ.next ?_
  refine kSR ?_
  refine kC 3 [2,3,6,7,8,16,18] ?_
  obtain ⟨y0, hy0, h2⟩ := bindS h1
  refine kA 19 (slices_Index_ok hy0) ?_
  refine kC 1 [2,3,6,7,8,9] ?_
  refine kEN ?_
  refine kS ?_
  refine kSR ?_
  refine kC 2 [2,3,6,7,8,9,21] ?_
  refine kEN ?_
  refine kBJ 21 h2 (fun h3 => ?_) (fun h4 => ?_)
  ·refine kT ?_
   refine kSR ?_
   refine kC 3 [2,3,6,7,8,9] ?_
   refine kEN ?_
   refine kX ?_
   refine PJ.passRet ?_
   obtain rfl := oi h3
   refine PJ.res (v1 := .tup [.nl, .int .i64 0, .bool false]) (Le.tup (.cons (Le.nl _) (.cons (Le.refl _) (.cons (Le.refl _) .nil)))) ?_
   exact kZ hFn hFH hFD
  ·refine kF ?_
   refine kK ?_
   refine PJ.next ?_
   refine kS ?_
   refine J.keep [2, 3, 6, 7, 8, 9] (L2 := [(2, lsv (encI .i32) 1 x2), (3, .ptr 0 0), (6, .nl), (7, .int .i64 0), (8, .bool false), (9, .int .i64 y0)]) (by kernel_rfl) ?_
   refine K.draw (by kernel_rfl) (by kernel_rfl) (by kernel_rfl) (H2 := [.box (encSt22 x0), .box (encSt25 x1), .res]) (by kernel_rfl) (n := 2) (by kernel_rfl) ?_
   refine kD 4 ?_
   obtain ⟨hm, h5⟩ := asrt h4
   refine RJ.rel (d := (some 27)) (ef := ⟨.lst (((x2.length : Int) : Int).toNat - ((IntKind.wrap .i64 (y0 + 1)) : Int).toNat) 1 (((x2.flatMap (encI .i32)).take (((x2.length : Int) : Int).toNat * 1)).drop (((IntKind.wrap .i64 (y0 + 1)) : Int).toNat * 1)), [], []⟩) (ef' := ⟨.lst (cut x2 (IntKind.wrap .i64 (y0 + 1)) (x2.length : Int)).length 1 ((cut x2 (IntKind.wrap .i64 (y0 + 1)) (x2.length : Int)).flatMap (encI .i32)), [], []⟩) (c := inS (IntKind.wrap .i64 (y0 + 1)) (x2.length : Int) x2.length) (tr2 := [([0, 1], []), ([], []), ([], []), ([], []), ([], [])]) (H2 := [.box (encSt22 x0), .box (encSt25 x1), .res]) (by kernel_rfl) hm (fun hc => N.slice (encI_len .i32) hc) (by kernel_rfl) ?_
   obtain ⟨y1, hy1, h6⟩ := bindS h5
   refine RJ.call0 (d := (some 28)) (f := 75) (args := [.agg (encSt22 x0), lsv (encI .i32) 1 ((cut x2 (IntKind.wrap .i64 (y0 + 1)) (x2.length : Int)))]) (v := .tup [.int .i64 y1.1, .bool y1.2]) (tr2 := [([0, 1], []), ([], []), ([], []), ([], []), ([], []), ([], [4, 5])]) (by kernel_rfl) (by kernel_rfl) (.cons (Le.refl _) (.cons (Le.refl _) .nil)) (shape_readPower_ok hy1) (by kernel_rfl) ?_
   refine kD 5 ?_
   refine kEN ?_
   refine kSR ?_
   refine kC 2 [6,7,8,10,11,31,32] ?_
   obtain ⟨hm, h7⟩ := asrt h6
   refine RJ.rel (d := (some 33)) (ef := ⟨.lst ((y0 : Int).toNat - (0 : Int).toNat) 1 (((x2.flatMap (encI .i32)).take ((y0 : Int).toNat * 1)).drop ((0 : Int).toNat * 1)), [], []⟩) (ef' := ⟨.lst (cut x2 0 y0).length 1 ((cut x2 0 y0).flatMap (encI .i32)), [], []⟩) (c := inS 0 y0 x2.length) (tr2 := []) (H2 := [.box (encSt22 x0), .box (encSt25 x1), .res]) (by kernel_rfl) hm (fun hc => N.slice (encI_len .i32) hc) (by kernel_rfl) ?_
   refine RJ.seg 5 [6, 7, 8] (L2 := [(6, lsv (encI .i32) 1 (cut x2 0 y0)), (7, .int .i64 y1.1), (8, .bool y1.2)]) (H2 := [.box (encSt22 x0), .box (encSt25 x1), .res]) (by kernel_rfl) ?_
   refine kEN ?_
   refine kX ?_
   obtain rfl := oi h7
   exact kZ hFn hFH hFD
def shape_cutPart (x0 : St22) (x1 : List Int) : Option ((List Int) × (List Int) × Bool) :=
 (Option.bind (slices_Index x1 x0.Dec_) fun y0 => (bif (decide (y0 < 0)) then (some (x1, ([] : List Int), true)) else (bif inS (IntKind.wrap .i64 (y0 + 1)) (x1.length : Int) x1.length then (Option.bind (shape_figures x0 ((cut x1 (IntKind.wrap .i64 (y0 + 1)) (x1.length : Int)))) fun y1 => (Option.bind (bif inS 0 y0 x1.length then (bif y1.2 then (some ((decide ((y1.1.length : Int) > 0)))) else (some false)) else none) fun (s0 : Bool) => (some ((cut x1 0 y0), y1.1, s0)))) else none)))
theorem shape_cutPart_ok {x0 : St22} {x1 : List Int} {r : (List Int) × (List Int) × Bool} (h : shape_cutPart x0 x1 = some r) : SC Tryz.prog 47 [.agg (encSt22 x0), lsv (encI .i32) 1 x1] [] (.tup [lsv (encI .i32) 1 r.1, lsv (encI .u8) 1 r.2.1, .bool r.2.2]) [] := by
 refine kFn (fn := Tryz.f47) (fun F hFn hFH hFD => ?_)
 unfold shape_cutPart at h
 refine kSR ?_
 refine kC 4 [1,2,4,5,6] ?_
 refine kEN ?_
 refine kSR ?_
 refine kC 3 [1,2,4,5,6,10,12] ?_
 obtain ⟨y0, hy0, h0⟩ := bindS h
 refine kA 13 (slices_Index_ok hy0) ?_
 refine kC 1 [1,2,4,5,6,7] ?_
 refine kEN ?_
 refine kS ?_
 refine kSR ?_
 refine kC 2 [1,2,4,5,6,7,15] ?_
 refine kEN ?_
 refine kBJ 15 h0 (fun h1 => ?_) (fun h2 => ?_)
 ·refine kT ?_
  refine kSR ?_
  refine kC 4 [1,2,4,5,6,7] ?_
  refine kEN ?_
  refine kX ?_
  refine PJ.passRet ?_
  obtain rfl := oi h1
  refine PJ.res (v1 := .tup [lsv (encI .i32) 1 x1, .nl, .bool true]) (Le.tup (.cons (Le.refl _) (.cons (Le.nl _) (.cons (Le.refl _) .nil)))) ?_
  exact kZ hFn hFH hFD
 ·refine kF ?_
  refine kK ?_
  refine PJ.next ?_
  refine kS ?_
  refine J.keep [1, 2, 4, 5, 6, 7] (L2 := [(1, lsv (encI .i32) 1 x1), (2, .ptr 0 0), (4, .nl), (5, .nl), (6, .bool false), (7, .int .i64 y0)]) (by kernel_rfl) ?_
  refine K.draw (by kernel_rfl) (by kernel_rfl) (by kernel_rfl) (H2 := [.box (encSt22 x0), .res]) (by kernel_rfl) (n := 1) (by kernel_rfl) ?_
  refine kD 4 ?_
  obtain ⟨hm, h3⟩ := asrt h2
  refine RJ.rel (d := (some 22)) (ef := ⟨.lst (((x1.length : Int) : Int).toNat - ((IntKind.wrap .i64 (y0 + 1)) : Int).toNat) 1 (((x1.flatMap (encI .i32)).take (((x1.length : Int) : Int).toNat * 1)).drop (((IntKind.wrap .i64 (y0 + 1)) : Int).toNat * 1)), [], []⟩) (ef' := ⟨.lst (cut x1 (IntKind.wrap .i64 (y0 + 1)) (x1.length : Int)).length 1 ((cut x1 (IntKind.wrap .i64 (y0 + 1)) (x1.length : Int)).flatMap (encI .i32)), [], []⟩) (c := inS (IntKind.wrap .i64 (y0 + 1)) (x1.length : Int) x1.length) (tr2 := [([0, 1], []), ([], []), ([], []), ([], []), ([], [])]) (H2 := [.box (encSt22 x0), .res]) (by kernel_rfl) hm (fun hc => N.slice (encI_len .i32) hc) (by kernel_rfl) ?_
  obtain ⟨y1, hy1, h4⟩ := bindS h3
  refine RJ.call0 (d := (some 23)) (f := 76) (args := [.agg (encSt22 x0), lsv (encI .i32) 1 ((cut x1 (IntKind.wrap .i64 (y0 + 1)) (x1.length : Int)))]) (v := .tup [lsv (encI .u8) 1 y1.1, .bool y1.2]) (tr2 := [([0, 1], []), ([], []), ([], []), ([], []), ([], []), ([], [2, 3])]) (by kernel_rfl) (by kernel_rfl) (.cons (Le.refl _) (.cons (Le.refl _) .nil)) (shape_figures_ok hy1) (by kernel_rfl) ?_
  refine kD 5 ?_
  refine kEN ?_
  obtain ⟨s0, hy2, h5⟩ := bindS h4
  refine K.cutN (by kernel_rfl) (fun (s0 : Bool) => ([(4, lsv (encI .i32) 1 (cut x1 0 y0)), (5, lsv (encI .u8) 1 y1.1), (6, .bool s0)], [])) s0 ?_ ?_
  ·refine kR ?_
   refine kC 2 [4,5,6,8,9,26,27] ?_
   obtain ⟨hm, h6⟩ := asrt hy2
   refine RJ.rel (d := (some 28)) (ef := ⟨.lst ((y0 : Int).toNat - (0 : Int).toNat) 1 (((x1.flatMap (encI .i32)).take ((y0 : Int).toNat * 1)).drop ((0 : Int).toNat * 1)), [], []⟩) (ef' := ⟨.lst (cut x1 0 y0).length 1 ((cut x1 0 y0).flatMap (encI .i32)), [], []⟩) (c := inS 0 y0 x1.length) (tr2 := []) (H2 := [.box (encSt22 x0), .res]) (by kernel_rfl) hm (fun hc => N.slice (encI_len .i32) hc) (by kernel_rfl) ?_
   refine kC 3 [4,5,6,8,28,29,31] ?_
   refine kB 31 h6 (fun h7 => ?_) (fun h8 => ?_)
   ·refine RJ.seg 7 [4, 5, 6] (L2 := [(4, lsv (encI .i32) 1 (cut x1 0 y0)), (5, lsv (encI .u8) 1 y1.1), (6, .bool ((decide ((y1.1.length : Int) > 0))))]) (H2 := [.box (encSt22 x0), .res]) (by kernel_rfl) ?_
    refine kE ?_
    obtain rfl := oi h7
    refine kW (L2 := [(4, lsv (encI .i32) 1 (cut x1 0 y0)), (5, lsv (encI .u8) 1 y1.1), (6, .bool ((decide ((y1.1.length : Int) > 0))))]) (H2 := []) hFH hFD [] ?_
    exact kN [4, 5, 6]
   ·refine RJ.seg 7 [4, 5, 6] (L2 := [(4, lsv (encI .i32) 1 (cut x1 0 y0)), (5, lsv (encI .u8) 1 y1.1), (6, .bool false)]) (H2 := [.box (encSt22 x0), .res]) (by kernel_rfl) ?_
    refine kE ?_
    obtain rfl := oi h8
    refine kW (L2 := [(4, lsv (encI .i32) 1 (cut x1 0 y0)), (5, lsv (encI .u8) 1 y1.1), (6, .bool false)]) (H2 := []) hFH hFD [] ?_
    exact kN [4, 5, 6]
  ·refine kX ?_
   obtain rfl := oi h5
   exact kZ hFn hFH hFD
theorem sym_Grouped_ok_0o {x0 : St22} {x1 : List Int} {x2 : Int} {x3 : Int} {r : List Int} (h : sym_Grouped x0 x1 x2 x3 = some r) : SC Tryz.prog 40 [.agg (encSt22 x0), .vc 0, .int .i64 x2, .int .i64 x3] [vecL (encI .u8) 1 5 x1] (.vc 1) [vecL (encI .u8) 1 5 x1, vecL (encI .i32) 1 21 r] := by
 refine kFn (fn := Tryz.f40) (fun F hFn hFH hFD => ?_)
 unfold sym_Grouped at h
 refine kSR ?_
 refine kC 2 [1,2,3,4,8] ?_
 refine kEN ?_
 refine kSR ?_
 refine kC 1 [1,2,3,4,8,9] ?_
 refine kEN ?_
 obtain ⟨s2, hy0, h0⟩ := bindS h
 refine K.cutN (by kernel_rfl) (fun (s2 : (List Int)) => ([(8, .nl), (9, .vc 1)], [vecL (encI .u8) 1 5 x1, vecL (encI .i32) 1 21 s2])) s2 ?_ ?_
 ·refine kSR ?_
  refine kC 3 [1,2,3,4,8,9,12,13] ?_
  refine kEN ?_
  refine kb 0 ?_
  refine J.wk (Wk.viv 9 1 21 (by kernel_rfl)) ?_
  refine kl (fun (s0 : Int × (List Int)) => ([(1, .vc 0), (2, .int .i64 x2), (3, .int .i64 x3), (4, .ptr 1 0), (8, .nl), (9, .vc 2), (12, .int .i64 (x1.length : Int)), (13, .int .i64 s0.1)], [vecL (encI .u8) 1 5 x1, .box (encSt22 x0), vecL (encI .i32) 1 21 s0.2])) hy0 [1, 2, 3, 4, 8, 9, 12, 13] (fun s0 x591 hs0 => ?_)
  refine kSR ?_
  refine kC 1 [1,2,3,4,8,9,12,13,14] ?_
  refine kEN ?_
  refine kS ?_
  refine kBJ 14 hs0 (fun h1 => ?_) (fun h2 => ?_)
  ·refine kT ?_
   refine kK ?_
   refine PJ.next ?_
   obtain ⟨s3, hy1, h3⟩ := bindS h1
   refine K.cutN (by kernel_rfl) (fun (s3 : (List Int)) => ([(1, .vc 0), (2, .int .i64 x2), (3, .int .i64 x3), (4, .ptr 1 0), (8, .nl), (9, .vc 2), (12, .int .i64 (x1.length : Int)), (13, .int .i64 s0.1)], [vecL (encI .u8) 1 5 x1, .box (encSt22 x0), vecL (encI .i32) 1 21 s3])) s3 ?_ ?_
   ·refine kb 1 ?_
    refine kSR ?_
    refine kC 2 [1,2,3,4,8,9,10,12,13] ?_
    refine kEN ?_
    obtain ⟨s1, hy2, h4⟩ := bindS hy1
    refine K.cutN (by kernel_rfl) (fun (s1 : (List Int)) => ([(1, .vc 0), (2, .int .i64 x2), (3, .int .i64 x3), (4, .ptr 1 0), (8, .nl), (9, .vc 2), (10, .int .i64 s0.1), (12, .int .i64 (x1.length : Int)), (13, .int .i64 s0.1)], [vecL (encI .u8) 1 5 x1, .box (encSt22 x0), vecL (encI .i32) 1 21 s1])) s1 ?_ ?_
    ·obtain ⟨s4, hy3, h5⟩ := bindS hy2
     refine K.cutN (by kernel_rfl) (fun (s4 : Bool) => ([(1, .vc 0), (2, .int .i64 x2), (3, .int .i64 x3), (4, .ptr 1 0), (8, .nl), (9, .vc 2), (10, .int .i64 s0.1), (12, .int .i64 (x1.length : Int)), (13, .int .i64 s0.1), (26, .bool s4)], [vecL (encI .u8) 1 5 x1, .box (encSt22 x0), vecL (encI .i32) 1 21 s0.2])) s4 ?_ ?_
     ·refine kR ?_
      refine kC 3 [1,2,3,4,8,9,10,12,13,18] ?_
      refine kB 18 hy3 (fun h6 => ?_) (fun h7 => ?_)
      ·refine kC 6 [1,2,3,4,8,9,10,12,13,18,22,23,24] ?_
       obtain ⟨y0, hy4, h8⟩ := bindS h6
       refine kA 25 (sym_cut_ok hy4) ?_
       refine kC 1 [1,2,3,4,8,9,10,12,13,26] ?_
       refine kE ?_
       obtain rfl := oi h8
       exact kN [1, 2, 3, 4, 8, 9, 10, 12, 13, 26]
      ·refine kC 8 [1,2,3,4,8,9,10,12,13,26] ?_
       refine kE ?_
       obtain rfl := oi h7
       exact kN [1, 2, 3, 4, 8, 9, 10, 12, 13, 26]
     ·refine kBJ 26 h5 (fun h9 => ?_) (fun h10 => ?_)
      ·refine kT ?_
       refine kR ?_
       refine kC 4 [1,2,3,4,8,9,10,12,13,27,30] ?_
       obtain ⟨hm700, h11⟩ := asrt h9
       refine RJ.rel (d := (some 31)) (ef := ⟨.vc 4, [2, 3], [(2, .gone), (4, .vec (s0.2.length + ([x0.Group_] : List Int).length) 1 21 (s0.2.flatMap (encI .i32) ++ ([x0.Group_] : List Int).flatMap (encI .i32)))]⟩) (ef' := ⟨.vc 4, [2, 3], [(2, .gone), (4, vecL (encI .i32) 1 21 (s0.2 ++ ([x0.Group_] : List Int)))]⟩) (c := room (s0.2.length + ([x0.Group_] : List Int).length)) (tr2 := []) (H2 := [vecL (encI .u8) 1 5 x1, .box (encSt22 x0), .gone, vecL (encI .i32) 1 21 ([x0.Group_] : List Int), vecL (encI .i32) 1 21 (s0.2 ++ ([x0.Group_] : List Int))]) (by kernel_rfl) hm700 (fun hc => N.app) (by kernel_rfl) ?_
       refine kC 1 [1,2,3,4,8,9,10,12,13] ?_
       refine kE ?_
       obtain rfl := oi h11
       refine kW (L2 := [(1, .vc 0), (2, .int .i64 x2), (3, .int .i64 x3), (4, .ptr 1 0), (8, .nl), (9, .vc 2), (10, .int .i64 s0.1), (12, .int .i64 (x1.length : Int)), (13, .int .i64 s0.1)]) (H2 := [vecL (encI .u8) 1 5 x1, .box (encSt22 x0), vecL (encI .i32) 1 21 (s0.2 ++ ([x0.Group_] : List Int))]) hFH hFD [0, 1, 4] ?_
       exact kN [1, 2, 3, 4, 8, 9, 10, 12, 13]
      ·refine kF ?_
       refine kK ?_
       obtain rfl := oi h10
       exact kN [1, 2, 3, 4, 8, 9, 10, 12, 13]
    ·refine J.keep [1, 2, 3, 4, 8, 9, 10, 12, 13] (L2 := [(1, .vc 0), (2, .int .i64 x2), (3, .int .i64 x3), (4, .ptr 1 0), (8, .nl), (9, .vc 2), (10, .int .i64 s0.1), (12, .int .i64 (x1.length : Int)), (13, .int .i64 s0.1)]) (by kernel_rfl) ?_
     refine K.draw (by kernel_rfl) (by kernel_rfl) (by kernel_rfl) (H2 := [vecL (encI .u8) 1 5 x1, .box (encSt22 x0), vecL (encI .i32) 1 21 s1, .res, .res]) (by kernel_rfl) (n := 3) (by kernel_rfl) ?_
     refine kD 5 ?_
     obtain ⟨hm702, h12⟩ := asrt h4
     refine kQ 37 (.ptr 0 ((s0.1 : Int).toNat * 1)) [0] (tr2 := [([], []), ([], []), ([2, 3], []), ([], []), ([], []), ([1], [])]) hm702 ?_
     refine RJ.rel (d := (some 38)) (ef := ⟨(((x1).flatMap (encI .u8)).drop ((s0.1 : Int).toNat * 1)).headD .undef, [0], []⟩) (ef' := ⟨.int .u8 (nth x1 s0.1), [0], []⟩) (c := Nat.blt ((s0.1 : Int).toNat * 1) (x1.flatMap (encI .u8)).length) (tr2 := [([], []), ([], []), ([2, 3], []), ([], []), ([], []), ([1], []), ([0, 1], [])]) (H2 := [vecL (encI .u8) 1 5 x1, .box (encSt22 x0), vecL (encI .i32) 1 21 s1, .res, .res]) (by kernel_rfl) (loadv_ok (encI_len .u8) rfl hm702) (fun hc => N.load1 (encI_len .u8) (fun _ => rfl) hm702) (by kernel_rfl) ?_
     refine kD 3 ?_
     obtain ⟨hm704, h13⟩ := asrt h12
     refine RJ.rel (d := (some 42)) (ef := ⟨.vc 4, [2, 3], [(2, .gone), (4, .vec (s1.length + (([(IntKind.wrap .i32 (x0.Zero_ + (IntKind.wrap .i32 (nth x1 s0.1))))] : List Int)).length) 1 21 (s1.flatMap (encI .i32) ++ (([(IntKind.wrap .i32 (x0.Zero_ + (IntKind.wrap .i32 (nth x1 s0.1))))] : List Int)).flatMap (encI .i32)))]⟩) (ef' := ⟨.vc 4, [2, 3], [(2, .gone), (4, vecL (encI .i32) 1 21 (s1 ++ (([(IntKind.wrap .i32 (x0.Zero_ + (IntKind.wrap .i32 (nth x1 s0.1))))] : List Int))))]⟩) (c := room (s1.length + (([(IntKind.wrap .i32 (x0.Zero_ + (IntKind.wrap .i32 (nth x1 s0.1))))] : List Int)).length)) (tr2 := [([], []), ([], []), ([2, 3], []), ([], []), ([], []), ([1], []), ([0, 1], []), ([], []), ([], []), ([], [6, 7, 6, 7]), ([4, 5, 6, 7], [4, 5, 8, 9, 8, 9])]) (H2 := [vecL (encI .u8) 1 5 x1, .box (encSt22 x0), .gone, vecL (encI .i32) 1 21 (([(IntKind.wrap .i32 (x0.Zero_ + (IntKind.wrap .i32 (nth x1 s0.1))))] : List Int)), vecL (encI .i32) 1 21 ((s1 ++ (([(IntKind.wrap .i32 (x0.Zero_ + (IntKind.wrap .i32 (nth x1 s0.1))))] : List Int))))]) (by kernel_rfl) hm704 (fun hc => N.app) (by kernel_rfl) ?_
     refine kD 1 ?_
     refine kE ?_
     refine PJ.blockNormal ?_
     obtain rfl := oi h13
     refine kW (L2 := [(1, .vc 0), (2, .int .i64 x2), (3, .int .i64 x3), (4, .ptr 1 0), (8, .nl), (9, .vc 2), (12, .int .i64 (x1.length : Int)), (13, .int .i64 s0.1)]) (H2 := [vecL (encI .u8) 1 5 x1, .box (encSt22 x0), vecL (encI .i32) 1 21 ((s1 ++ (([(IntKind.wrap .i32 (x0.Zero_ + (IntKind.wrap .i32 (nth x1 s0.1))))] : List Int))))]) hFH hFD [0, 1, 4] ?_
     exact kN [1, 2, 3, 4, 8, 9, 12, 13]
   ·refine kR ?_
    refine kC 2 [1,2,3,4,8,9,12,13] ?_
    refine kE ?_
    obtain rfl := oi h3
    exact kLN [1, 2, 3, 4, 8, 9, 12, 13]
  ·refine kF ?_
   refine K.exit 0 (by kernel_rfl) ?_
   refine PJ.passExit ?_
   obtain rfl := oi h2
   refine PJ.loopOut (fun e => nomatch e) (fun he0 => ?_)
   have h14 := congrArg some he0
   refine PJ.blockOut ?_
   obtain rfl := oi h14
   refine kW (L2 := [(8, .nl), (9, .vc 1)]) (H2 := [vecL (encI .u8) 1 5 x1, vecL (encI .i32) 1 21 s0.2]) hFH hFD [0, 2] ?_
   exact kN [8, 9]
 ·refine kSR ?_
  refine kC 2 [8] ?_
  refine kEN ?_
  refine kX ?_
  obtain rfl := oi h0
  exact kV [0, 1] hFn hFH hFD (v1 := .vc 1)
def slices_Equal (x0 : List Int) (x1 : List Int) : Option (Bool) :=
 (bif (decide (¬ (x0.length : Int) = (x1.length : Int))) then (some false) else (Option.bind (loopN (fun (s0 : Int) => (bif (decide (s0 < (x0.length : Int))) then (bif inR s0 x0.length then (bif inR s0 x1.length then (bif (decide (¬ (nth x0 s0) = (nth x1 s0))) then (some (.inr (.inr false))) else (some (.inl (IntKind.wrap .i64 (s0 + 1))))) else none) else none) else (some (.inr (.inl ()))))) big 0) (joinX fun (s1 : Unit) => (some true))))
theorem slices_Equal_ok {x0 : List Int} {x1 : List Int} {r : Bool} (h : slices_Equal x0 x1 = some r) : SC Tryz.prog 78 [lsv (encI .i32) 1 x0, lsv (encI .i32) 1 x1] [] (.bool r) [] := by
 refine kFn (fn := Tryz.f78) (fun F hFn hFH hFD => ?_)
 unfold slices_Equal at h
 refine kSR ?_
 refine kC 1 [0,1,4] ?_
 refine kEN ?_
 refine kS ?_
 refine kSR ?_
 refine kC 5 [0,1,4,10] ?_
 refine kEN ?_
 refine kBJ 10 h (fun h1 => ?_) (fun h2 => ?_)
 ·refine kT ?_
  refine kSR ?_
  refine kC 1 [0,1,4] ?_
  refine kEN ?_
  refine kX ?_
  refine PJ.passRet ?_
  obtain rfl := oi h1
  exact kZ hFn hFH hFD
 ·refine kF ?_
  refine kK ?_
  refine PJ.next ?_
  obtain ⟨y0, hy0, h0⟩ := bindS h2
  refine K.cutX (by kernel_rfl) (fun (s1 : Unit) => ([(4, .bool false)], [])) y0 ?_ (fun s1 hs => ?_)
  ·refine kSR ?_
   refine kC 3 [0,1,4,12,13] ?_
   refine kEN ?_
   refine kb 0 ?_
   refine kl (fun (s0 : Int) => ([(0, lsv (encI .i32) 1 x0), (1, lsv (encI .i32) 1 x1), (4, .bool false), (12, .int .i64 (x0.length : Int)), (13, .int .i64 s0)], [])) hy0 [0, 1, 4, 12, 13] (fun s0 x79 hs0 => ?_)
   refine kSR ?_
   refine kC 1 [0,1,4,12,13,14] ?_
   refine kEN ?_
   refine kS ?_
   refine kBJ 14 hs0 (fun h3 => ?_) (fun h4 => ?_)
   ·refine kT ?_
    refine kK ?_
    refine PJ.next ?_
    refine kS ?_
    refine kb 1 ?_
    refine kSR ?_
    refine kC 2 [0,1,4,5,12,13] ?_
    refine kEN ?_
    refine kS ?_
    refine J.keep [0, 1, 4, 5, 12, 13] (L2 := [(0, lsv (encI .i32) 1 x0), (1, lsv (encI .i32) 1 x1), (4, .bool false), (5, .int .i64 s0), (12, .int .i64 (x0.length : Int)), (13, .int .i64 s0)]) (by kernel_rfl) ?_
    refine K.draw (by kernel_rfl) (by kernel_rfl) (by kernel_rfl) (H2 := []) (by kernel_rfl) (n := 0) (by kernel_rfl) ?_
    refine kD 2 ?_
    obtain ⟨hm, h5⟩ := asrt h3
    refine kJ 18 (tr2 := [([], []), ([], []), ([], [])]) (encI_len .i32) hm ?_
    refine kD 3 ?_
    obtain ⟨hm, h6⟩ := asrt h5
    refine kJ 22 (tr2 := [([], []), ([], []), ([], []), ([], []), ([], []), ([], []), ([], [])]) (encI_len .i32) hm ?_
    refine kD 2 ?_
    refine kEN ?_
    refine kBJ 24 h6 (fun h7 => ?_) (fun h8 => ?_)
    ·refine kT ?_
     refine kSR ?_
     refine kC 1 [0,1,4,12,13] ?_
     refine kEN ?_
     refine kX ?_
     refine PJ.blockRet ?_
     refine PJ.passRet ?_
     obtain rfl := oi h7
     refine PJ.loopOut (fun e => nomatch e) (fun he0 => ?_)
     have h9 := congrArg some he0
     refine PJ.blockRet ?_
     obtain rfl := oi h9
     have h10 := joinX_inr h0
     refine PJ.cutXr (fun e => nomatch e) ?_
     obtain rfl := oi h10
     exact kZ hFn hFH hFD
    ·refine kF ?_
     refine kK ?_
     refine PJ.blockNormal ?_
     refine PJ.next ?_
     refine kR ?_
     refine kC 2 [0,1,4,12,13] ?_
     refine kE ?_
     obtain rfl := oi h8
     exact kLN [0, 1, 4, 12, 13]
   ·refine kF ?_
    refine K.exit 0 (by kernel_rfl) ?_
    refine PJ.passExit ?_
    obtain rfl := oi h4
    refine PJ.loopOut (fun e => nomatch e) (fun he1 => ?_)
    have h11 := congrArg some he1
    refine PJ.blockOut ?_
    obtain rfl := oi h11
    exact kXl [4]
  ·subst hs
   have h12 := joinX_inl h0
   refine kSR ?_
   refine kC 1 [4] ?_
   refine kEN ?_
   refine kX ?_
   obtain rfl := oi h12
   exact kZ hFn hFH hFD
def sym_Ungrouped (x0 : St22) (x1 : List Int) (x2 : Int) (x3 : Int) : Option ((List Int) × Int × Int) :=
 (Option.bind (loopN (fun (s0 : Int × (List Int)) => (bif (decide (s0.1 < (x1.length : Int))) then (Option.bind (bif inR s0.1 x1.length then (Option.bind (sym_Value x0 (nth x1 s0.1)) fun y0 => (bif y0.2 then (bif room (s0.2.length + ([y0.1] : List Int).length) then (some (.inl (s0.2 ++ ([y0.1] : List Int)))) else none) else (bif (decide (¬ (nth x1 s0.1) = x0.Group_)) then (some (.inr (.inr (.inr (([] : List Int), s0.1, 10))))) else (some (.inl s0.2))))) else none) (joinX fun (s2 : (List Int)) => (some (.inl ((IntKind.wrap .i64 (s0.1 + 1)), s2))))) else (some (.inr (.inl s0.2))))) big (0, ([] : List Int))) (joinX fun (s1 : (List Int)) => (Option.bind (sym_Grouped x0 s1 x2 x3) fun y1 => (Option.bind (slices_Equal y1 x1) fun y2 => (bif (!y2) then (some (([] : List Int), (x1.length : Int), 10)) else (some (s1, 0, 0)))))))
theorem sym_Ungrouped_ok_o {x0 : St22} {x1 : List Int} {x2 : Int} {x3 : Int} {r : (List Int) × Int × Int} (h : sym_Ungrouped x0 x1 x2 x3 = some r) : SC Tryz.prog 48 [.agg (encSt22 x0), lsv (encI .i32) 1 x1, .int .i64 x2, .int .i64 x3] [] (.tup [.vc 0, .int .i64 r.2.1, .int .i64 r.2.2]) [vecL (encI .u8) 1 5 r.1] := by
 refine kFn (fn := Tryz.f48) (fun F hFn hFH hFD => ?_)
 unfold sym_Ungrouped at h
 refine kSR ?_
 refine kC 4 [1,2,3,4,8,9,10] ?_
 refine kEN ?_
 refine kSR ?_
 refine kC 1 [1,2,3,4,8,9,10,11] ?_
 refine kEN ?_
 obtain ⟨y3, hy0, h0⟩ := bindS h
 refine K.cutX (by kernel_rfl) (fun (s1 : (List Int)) => ([(1, lsv (encI .i32) 1 x1), (2, .int .i64 x2), (3, .int .i64 x3), (4, .ptr 0 0), (8, .nl), (9, .int .i64 0), (10, .int .i64 0), (11, .vc 1)], [.box (encSt22 x0), vecL (encI .u8) 1 5 s1])) y3 ?_ (fun s1 hs => ?_)
 ·refine kSR ?_
  refine kC 3 [1,2,3,4,8,9,10,11,16,17,18] ?_
  refine kEN ?_
  refine kb 0 ?_
  refine J.wk (Wk.viv 11 1 5 (by kernel_rfl)) ?_
  refine kl (fun (s0 : Int × (List Int)) => ([(1, lsv (encI .i32) 1 x1), (2, .int .i64 x2), (3, .int .i64 x3), (4, .ptr 0 0), (8, .nl), (9, .int .i64 0), (10, .int .i64 0), (11, .vc 1), (16, lsv (encI .i32) 1 x1), (17, .int .i64 (x1.length : Int)), (18, .int .i64 s0.1)], [.box (encSt22 x0), vecL (encI .u8) 1 5 s0.2])) hy0 [1, 2, 3, 4, 8, 9, 10, 11, 16, 17, 18] (fun s0 x211 hs0 => ?_)
  refine kSR ?_
  refine kC 1 [1,2,3,4,8,9,10,11,16,17,18,19] ?_
  refine kEN ?_
  refine kS ?_
  refine kBJ 19 hs0 (fun h2 => ?_) (fun h3 => ?_)
  ·refine kT ?_
   refine kK ?_
   refine PJ.next ?_
   obtain ⟨y4, hy1, h1⟩ := bindS h2
   refine K.cutX (by kernel_rfl) (fun (s2 : (List Int)) => ([(1, lsv (encI .i32) 1 x1), (2, .int .i64 x2), (3, .int .i64 x3), (4, .ptr 0 0), (8, .nl), (9, .int .i64 0), (10, .int .i64 0), (11, .vc 1), (16, lsv (encI .i32) 1 x1), (17, .int .i64 (x1.length : Int)), (18, .int .i64 s0.1)], [.box (encSt22 x0), vecL (encI .u8) 1 5 s2])) y4 ?_ (fun s2 hs => ?_)
   ·refine kb 1 ?_
    refine kSR ?_
    refine kC 1 [1,2,3,4,8,9,10,11,16,17,18,20] ?_
    obtain ⟨hm, h4⟩ := asrt hy1
    refine kI 21 (encI_len .i32) hm ?_
    refine kC 3 [1,2,3,4,8,9,10,11,12,13,16,17,18] ?_
    refine kEN ?_
    refine kSR ?_
    refine kC 2 [1,2,3,4,8,9,10,11,12,13,16,17,18,24,25] ?_
    obtain ⟨y0, hy2, h5⟩ := bindS h4
    refine kA 26 (sym_Value_ok hy2) ?_
    refine kC 5 [1,2,3,4,8,9,10,11,12,13,14,15,16,17,18] ?_
    refine kEN ?_
    refine kb 2 ?_
    refine kSR ?_
    refine kC 2 [1,2,3,4,8,9,10,11,12,13,14,16,17,18,29] ?_
    refine kEN ?_
    refine kBJ 29 h5 (fun h6 => ?_) (fun h7 => ?_)
    ·refine kT ?_
     refine kR ?_
     refine kC 3 [1,2,3,4,8,9,10,11,16,17,18,31,33] ?_
     obtain ⟨hm, h8⟩ := asrt h6
     refine RJ.rel (d := (some 34)) (ef := ⟨.vc 3, [1, 2], [(1, .gone), (3, .vec (s0.2.length + ([y0.1] : List Int).length) 1 5 (s0.2.flatMap (encI .u8) ++ ([y0.1] : List Int).flatMap (encI .u8)))]⟩) (ef' := ⟨.vc 3, [1, 2], [(1, .gone), (3, vecL (encI .u8) 1 5 (s0.2 ++ ([y0.1] : List Int)))]⟩) (c := roomB (s0.2.length + ([y0.1] : List Int).length)) (tr2 := []) (H2 := [.box (encSt22 x0), .gone, vecL (encI .u8) 1 5 ([y0.1] : List Int), vecL (encI .u8) 1 5 (s0.2 ++ ([y0.1] : List Int))]) (by kernel_rfl) (roomB_of_room hm) (fun hc => N.app) (by kernel_rfl) ?_
     refine kC 1 [1,2,3,4,8,9,10,11,16,17,18] ?_
     refine kE ?_
     refine PJ.blockNormal ?_
     refine PJ.blockNormal ?_
     obtain rfl := oi h8
     refine kW (L2 := [(1, lsv (encI .i32) 1 x1), (2, .int .i64 x2), (3, .int .i64 x3), (4, .ptr 0 0), (8, .nl), (9, .int .i64 0), (10, .int .i64 0), (11, .vc 1), (16, lsv (encI .i32) 1 x1), (17, .int .i64 (x1.length : Int)), (18, .int .i64 s0.1)]) (H2 := [.box (encSt22 x0), vecL (encI .u8) 1 5 (s0.2 ++ ([y0.1] : List Int))]) hFH hFD [0, 3] ?_
     exact kXl [1, 2, 3, 4, 8, 9, 10, 11, 16, 17, 18]
    ·refine kF ?_
     refine kSR ?_
     refine kC 5 [1,2,3,4,8,9,10,11,12,16,17,18,35] ?_
     refine kEN ?_
     refine kBJ 35 h7 (fun h9 => ?_) (fun h10 => ?_)
     ·refine kT ?_
      refine kSR ?_
      refine kC 4 [1,2,3,4,8,9,10,11,16,17,18] ?_
      refine kEN ?_
      refine kX ?_
      refine PJ.blockRet ?_
      refine PJ.blockRet ?_
      obtain rfl := oi h9
      have h11 := joinX_inr h1
      refine PJ.cutXr (fun e => nomatch e) ?_
      obtain rfl := oi h11
      refine PJ.loopOut (fun e => nomatch e) (fun he0 => ?_)
      have h12 := congrArg some he0
      refine PJ.blockRet ?_
      obtain rfl := oi h12
      have h13 := joinX_inr h0
      refine PJ.cutXr (fun e => nomatch e) ?_
      obtain rfl := oi h13
      refine PJ.wk (Wk.viv 8 1 5 (by kernel_rfl)) ?_
      exact kV [2] hFn hFH hFD (v1 := .tup [.vc 2, .int .i64 s0.1, .int .i64 10])
     ·refine kF ?_
      refine kK ?_
      refine PJ.blockNormal ?_
      refine PJ.blockNormal ?_
      obtain rfl := oi h10
      exact kXl [1, 2, 3, 4, 8, 9, 10, 11, 16, 17, 18]
   ·subst hs
    have h14 := joinX_inl h1
    refine kR ?_
    refine kC 2 [1,2,3,4,8,9,10,11,16,17,18] ?_
    refine kE ?_
    obtain rfl := oi h14
    exact kLN [1, 2, 3, 4, 8, 9, 10, 11, 16, 17, 18]
  ·refine kF ?_
   refine K.exit 0 (by kernel_rfl) ?_
   refine PJ.passExit ?_
   obtain rfl := oi h3
   refine PJ.loopOut (fun e => nomatch e) (fun he1 => ?_)
   have h15 := congrArg some he1
   refine PJ.blockOut ?_
   obtain rfl := oi h15
   exact kXl [1, 2, 3, 4, 8, 9, 10, 11]
 ·subst hs
  have h16 := joinX_inl h0
  refine kS ?_
  refine kSR ?_
  refine kC 4 [1,8,9,10,11,42,43,44,45] ?_
  obtain ⟨y1, hy3, h17⟩ := bindS h16
  refine kCG (some 46) (args := [.agg (encSt22 x0), .vc 1, .int .i64 x2, .int .i64 x3]) (v := .vc 2) (H2 := [.box (encSt22 x0), vecL (encI .u8) 1 5 s1, vecL (encI .i32) 1 21 y1]) [1] (sym_Grouped_ok_0o hy3) ?_
  refine kC 1 [1,8,9,10,11,46,47] ?_
  obtain ⟨y2, hy4, h18⟩ := bindS h17
  refine RJ.callL (d := (some 48)) (f := 78) (args := [.vc 2, lsv (encI .i32) 1 x1]) (args0 := [.vc 0, lsv (encI .i32) 1 x1]) (args1 := [lsv (encI .i32) 1 y1, lsv (encI .i32) 1 x1]) (H0 := [vecL (encI .i32) 1 21 y1]) (v := .bool y2) (tr2 := []) [2] (by kernel_rfl) (by kernel_rfl) (by kernel_rfl) (by kernel_rfl) (by decide) (by kernel_rfl) (by kernel_rfl) (by kernel_rfl) (by kernel_rfl) (.cons (Le.refl _) (.cons (Le.refl _) .nil)) (slices_Equal_ok hy4) (by kernel_rfl) (by kernel_rfl) ?_
  refine kC 1 [1,8,9,10,11,49] ?_
  refine kEN ?_
  refine kBJ 49 h18 (fun h19 => ?_) (fun h20 => ?_)
  ·refine kT ?_
   refine kSR ?_
   refine kC 5 [8,9,10,11] ?_
   refine kEN ?_
   refine kX ?_
   refine PJ.passRet ?_
   obtain rfl := oi h19
   refine PJ.wk (Wk.viv 8 1 5 (by kernel_rfl)) ?_
   exact kV [3] hFn hFH hFD (v1 := .tup [.vc 3, .int .i64 (x1.length : Int), .int .i64 10])
  ·refine kF ?_
   refine kK ?_
   refine PJ.next ?_
   refine kSR ?_
   refine kC 4 [8,9,10] ?_
   refine kEN ?_
   refine kX ?_
   obtain rfl := oi h20
   exact kV [1] hFn hFH hFD (v1 := .tup [.vc 1, .int .i64 0, .int .i64 0])
def dec_Norm (x0 : Bool) (x1 : List Int) (x2 : Int) : Option (St28 × Int) :=
 (Option.bind (dec_figures x1) fun y1 => (bif (!y1) then (some ((⟨false, ([] : List Int), 0⟩ : St28), 1)) else (Option.bind (Option.bind (bif (decide (x2 < (-1099511627776))) then (some true) else (some (decide (x2 > 1099511627776)))) fun (s4 : Bool) => (bif s4 then (some (.inr ((⟨false, ([] : List Int), 0⟩ : St28), 11))) else (some (.inl ())))) (joinX fun (s7 : Unit) => (Option.bind (loopN (fun (s2 : Int) => (Option.bind (Option.bind (bif (decide (s2 < (x1.length : Int))) then (bif inR s2 x1.length then (some ((decide ((nth x1 s2) = 0)))) else none) else (some false)) fun (s5 : Bool) => (bif s5 then (some (.inl ())) else (some (.inr (.inr s2))))) (joinX fun (s8 : Unit) => (some (.inl (IntKind.wrap .i64 (s2 + 1))))))) big 0) fun (s0 : Int) => (Option.bind (loopN (fun (s3 : Int) => (Option.bind (Option.bind (bif (decide (s0 < s3)) then (bif inR (IntKind.wrap .i64 (s3 - 1)) x1.length then (some ((decide (((nth x1 (IntKind.wrap .i64 (s3 - 1)))) = 0)))) else none) else (some false)) fun (s6 : Bool) => (bif s6 then (some (.inl ())) else (some (.inr (.inr s3))))) (joinX fun (s9 : Unit) => (some (.inl (IntKind.wrap .i64 (s3 - 1))))))) big (x1.length : Int)) fun (s1 : Int) => (bif (decide (s0 = s1)) then (some ((⟨x0, ([] : List Int), 0⟩ : St28), 0)) else (bif inS s0 s1 x1.length then (Option.bind (slices_Clone (cut x1 s0 s1)) fun y0 => (Option.bind (dec_Right ((⟨x0, y0, (IntKind.wrap .i64 (((IntKind.wrap .i64 (x2 + (x1.length : Int)))) - s1))⟩ : St28))) fun y2 => (bif (!y2) then (some ((⟨false, ([] : List Int), 0⟩ : St28), 11)) else (some ((⟨x0, y0, (IntKind.wrap .i64 (((IntKind.wrap .i64 (x2 + (x1.length : Int)))) - s1))⟩ : St28), 0))))) else none))))))))
theorem dec_Norm_ok {x0 : Bool} {x1 : List Int} {x2 : Int} {r : St28 × Int} (h : dec_Norm x0 x1 x2 = some r) : SC Tryz.prog 49 [.bool x0, lsv (encI .u8) 1 x1, .int .i64 x2] [] (.tup [.agg (encSt28 r.1), .int .i64 r.2]) [] := by
 refine kFn (fn := Tryz.f49) (fun F hFn hFH hFD => ?_)
 unfold dec_Norm at h
 refine kSR ?_
 refine kC 2 [0,1,2,6,7] ?_
 refine kEN ?_
 refine kS ?_
 refine kSR ?_
 refine kC 1 [0,1,2,6,7,11] ?_
 obtain ⟨y1, hy0, h3⟩ := bindS h
 refine kA 12 (dec_figures_ok hy0) ?_
 refine kC 1 [0,1,2,6,7,13] ?_
 refine kEN ?_
 refine kBJ 13 h3 (fun h4 => ?_) (fun h5 => ?_)
 ·refine kT ?_
  refine kSR ?_
  refine kC 3 [0,1,2,6,7] ?_
  refine kEN ?_
  refine kX ?_
  refine PJ.passRet ?_
  obtain rfl := oi h4
  refine PJ.res (v1 := .tup [.agg [.bool false, .nl, .int .i64 0], .int .i64 1]) (Le.tup (.cons (Le.agg (.cons (Le.refl _) (.cons (Le.nl _) (.cons (Le.refl _) .nil)))) (.cons (Le.refl _) .nil))) ?_
  exact kZ hFn hFH hFD
 ·refine kF ?_
  refine kK ?_
  refine PJ.next ?_
  obtain ⟨y3, hy1, h0⟩ := bindS h5
  refine K.cutX (by kernel_rfl) (fun (s7 : Unit) => ([(0, .bool x0), (1, lsv (encI .u8) 1 x1), (2, .int .i64 x2), (6, .ptr 0 0), (7, .int .i64 0)], [.box [.bool false, .nl, .int .i64 0]])) y3 ?_ (fun s7 hs => ?_)
  ·obtain ⟨s4, hy2, h6⟩ := bindS hy1
   refine K.cutN (by kernel_rfl) (fun (s4 : Bool) => ([(0, .bool x0), (1, lsv (encI .u8) 1 x1), (2, .int .i64 x2), (6, .ptr 0 0), (7, .int .i64 0), (20, .bool s4)], [.box [.bool false, .nl, .int .i64 0]])) s4 ?_ ?_
   ·refine kR ?_
    refine kC 3 [0,1,2,6,7,17] ?_
    refine kB 17 hy2 (fun h7 => ?_) (fun h8 => ?_)
    ·refine kC 3 [0,1,2,6,7,20] ?_
     refine kE ?_
     obtain rfl := oi h7
     exact kN [0, 1, 2, 6, 7, 20]
    ·refine kC 3 [0,1,2,6,7,20] ?_
     refine kE ?_
     obtain rfl := oi h8
     exact kN [0, 1, 2, 6, 7, 20]
   ·refine kBJ 20 h6 (fun h9 => ?_) (fun h10 => ?_)
    ·refine kT ?_
     refine kSR ?_
     refine kC 3 [0,1,2,6,7] ?_
     refine kEN ?_
     refine kX ?_
     obtain rfl := oi h9
     have h11 := joinX_inr h0
     refine PJ.cutXr (fun e => nomatch e) ?_
     obtain rfl := oi h11
     refine PJ.res (v1 := .tup [.agg [.bool false, .nl, .int .i64 0], .int .i64 11]) (Le.tup (.cons (Le.agg (.cons (Le.refl _) (.cons (Le.nl _) (.cons (Le.refl _) .nil)))) (.cons (Le.refl _) .nil))) ?_
     exact kZ hFn hFH hFD
    ·refine kF ?_
     refine kK ?_
     obtain rfl := oi h10
     exact kXl [0, 1, 2, 6, 7]
  ·subst hs
   have h12 := joinX_inl h0
   refine kSR ?_
   refine kC 4 [0,1,2,6,7,8,9] ?_
   refine kEN ?_
   obtain ⟨s0, hy3, h13⟩ := bindS h12
   refine K.cutN (by kernel_rfl) (fun (s0 : Int) => ([(0, .bool x0), (1, lsv (encI .u8) 1 x1), (2, .int .i64 x2), (6, .ptr 0 0), (7, .int .i64 0), (8, .int .i64 s0), (9, .int .i64 (x1.length : Int))], [.box [.bool false, .nl, .int .i64 0]])) s0 ?_ ?_
   ·refine kb 0 ?_
    refine kl (fun (s2 : Int) => ([(0, .bool x0), (1, lsv (encI .u8) 1 x1), (2, .int .i64 x2), (6, .ptr 0 0), (7, .int .i64 0), (8, .int .i64 s2), (9, .int .i64 (x1.length : Int))], [.box [.bool false, .nl, .int .i64 0]])) hy3 [0, 1, 2, 6, 7, 8, 9] (fun s2 x267 hs0 => ?_)
    obtain ⟨y4, hy4, h1⟩ := bindS hs0
    refine K.cutX (by kernel_rfl) (fun (s8 : Unit) => ([(0, .bool x0), (1, lsv (encI .u8) 1 x1), (2, .int .i64 x2), (6, .ptr 0 0), (7, .int .i64 0), (8, .int .i64 s2), (9, .int .i64 (x1.length : Int))], [.box [.bool false, .nl, .int .i64 0]])) y4 ?_ (fun s8 hs => ?_)
    ·obtain ⟨s5, hy5, h14⟩ := bindS hy4
     refine K.cutN (by kernel_rfl) (fun (s5 : Bool) => ([(0, .bool x0), (1, lsv (encI .u8) 1 x1), (2, .int .i64 x2), (6, .ptr 0 0), (7, .int .i64 0), (8, .int .i64 s2), (9, .int .i64 (x1.length : Int)), (33, .bool s5)], [.box [.bool false, .nl, .int .i64 0]])) s5 ?_ ?_
     ·refine kR ?_
      refine kC 4 [0,1,2,6,7,8,9,27] ?_
      refine kB 27 hy5 (fun h15 => ?_) (fun h16 => ?_)
      ·refine kC 2 [0,1,2,6,7,8,9,27,28,29] ?_
       obtain ⟨hm, h17⟩ := asrt h15
       refine kI 30 (encI_len .u8) hm ?_
       refine kC 3 [0,1,2,6,7,8,9,33] ?_
       refine kE ?_
       obtain rfl := oi h17
       exact kN [0, 1, 2, 6, 7, 8, 9, 33]
      ·refine kC 6 [0,1,2,6,7,8,9,33] ?_
       refine kE ?_
       obtain rfl := oi h16
       exact kN [0, 1, 2, 6, 7, 8, 9, 33]
     ·refine kBJ 33 h14 (fun h18 => ?_) (fun h19 => ?_)
      ·refine kT ?_
       refine kK ?_
       obtain rfl := oi h18
       exact kXl [0, 1, 2, 6, 7, 8, 9]
      ·refine kF ?_
       refine K.exit 0 (by kernel_rfl) ?_
       obtain rfl := oi h19
       have h20 := joinX_inr h1
       refine PJ.cutXr (fun e => nomatch e) ?_
       obtain rfl := oi h20
       refine PJ.loopOut (fun e => nomatch e) (fun he0 => ?_)
       have h21 := congrArg some he0
       refine PJ.blockOut ?_
       obtain rfl := oi h21
       exact kN [0, 1, 2, 6, 7, 8, 9]
    ·subst hs
     have h22 := joinX_inl h1
     refine kb 1 ?_
     refine kR ?_
     refine kC 3 [0,1,2,6,7,8,9] ?_
     refine kE ?_
     refine PJ.blockNormal ?_
     obtain rfl := oi h22
     exact kLN [0, 1, 2, 6, 7, 8, 9]
   ·obtain ⟨s1, hy6, h23⟩ := bindS h13
    refine K.cutN (by kernel_rfl) (fun (s1 : Int) => ([(0, .bool x0), (1, lsv (encI .u8) 1 x1), (2, .int .i64 x2), (6, .ptr 0 0), (7, .int .i64 0), (8, .int .i64 s0), (9, .int .i64 s1)], [.box [.bool false, .nl, .int .i64 0]])) s1 ?_ ?_
    ·refine kb 2 ?_
     refine kl (fun (s3 : Int) => ([(0, .bool x0), (1, lsv (encI .u8) 1 x1), (2, .int .i64 x2), (6, .ptr 0 0), (7, .int .i64 0), (8, .int .i64 s0), (9, .int .i64 s3)], [.box [.bool false, .nl, .int .i64 0]])) hy6 [0, 1, 2, 6, 7, 8, 9] (fun s3 x536 hs1 => ?_)
     obtain ⟨y5, hy7, h2⟩ := bindS hs1
     refine K.cutX (by kernel_rfl) (fun (s9 : Unit) => ([(0, .bool x0), (1, lsv (encI .u8) 1 x1), (2, .int .i64 x2), (6, .ptr 0 0), (7, .int .i64 0), (8, .int .i64 s0), (9, .int .i64 s3)], [.box [.bool false, .nl, .int .i64 0]])) y5 ?_ (fun s9 hs => ?_)
     ·obtain ⟨s6, hy8, h24⟩ := bindS hy7
      refine K.cutN (by kernel_rfl) (fun (s6 : Bool) => ([(0, .bool x0), (1, lsv (encI .u8) 1 x1), (2, .int .i64 x2), (6, .ptr 0 0), (7, .int .i64 0), (8, .int .i64 s0), (9, .int .i64 s3), (46, .bool s6)], [.box [.bool false, .nl, .int .i64 0]])) s6 ?_ ?_
      ·refine kR ?_
       refine kC 4 [0,1,2,6,7,8,9,39] ?_
       refine kB 39 hy8 (fun h25 => ?_) (fun h26 => ?_)
       ·refine kC 3 [0,1,2,6,7,8,9,39,40,42] ?_
        obtain ⟨hm, h27⟩ := asrt h25
        refine kI 43 (encI_len .u8) hm ?_
        refine kC 3 [0,1,2,6,7,8,9,46] ?_
        refine kE ?_
        obtain rfl := oi h27
        exact kN [0, 1, 2, 6, 7, 8, 9, 46]
       ·refine kC 7 [0,1,2,6,7,8,9,46] ?_
        refine kE ?_
        obtain rfl := oi h26
        exact kN [0, 1, 2, 6, 7, 8, 9, 46]
      ·refine kBJ 46 h24 (fun h28 => ?_) (fun h29 => ?_)
       ·refine kT ?_
        refine kK ?_
        obtain rfl := oi h28
        exact kXl [0, 1, 2, 6, 7, 8, 9]
       ·refine kF ?_
        refine K.exit 2 (by kernel_rfl) ?_
        obtain rfl := oi h29
        have h30 := joinX_inr h2
        refine PJ.cutXr (fun e => nomatch e) ?_
        obtain rfl := oi h30
        refine PJ.loopOut (fun e => nomatch e) (fun he1 => ?_)
        have h31 := congrArg some he1
        refine PJ.blockOut ?_
        obtain rfl := oi h31
        exact kN [0, 1, 2, 6, 7, 8, 9]
     ·subst hs
      have h32 := joinX_inl h2
      refine kb 3 ?_
      refine kR ?_
      refine kC 3 [0,1,2,6,7,8,9] ?_
      refine kE ?_
      refine PJ.blockNormal ?_
      obtain rfl := oi h32
      exact kLN [0, 1, 2, 6, 7, 8, 9]
    ·refine kS ?_
     refine kSR ?_
     refine kC 3 [0,1,2,6,7,8,9,51] ?_
     refine kEN ?_
     refine kBJ 51 h23 (fun h33 => ?_) (fun h34 => ?_)
     ·refine kT ?_
      refine kSR ?_
      refine kC 4 [0,1,2,6,7,8,9] ?_
      refine kEN ?_
      refine kX ?_
      refine PJ.passRet ?_
      obtain rfl := oi h33
      refine PJ.res (v1 := .tup [.agg [.bool x0, .nl, .int .i64 0], .int .i64 0]) (Le.tup (.cons (Le.agg (.cons (Le.refl _) (.cons (Le.nl _) (.cons (Le.refl _) .nil)))) (.cons (Le.refl _) .nil))) ?_
      exact kZ hFn hFH hFD
     ·refine kF ?_
      refine kK ?_
      refine PJ.next ?_
      refine kSR ?_
      refine kC 4 [1,2,6,7,9,54,55,56,57] ?_
      obtain ⟨hm, h35⟩ := asrt h34
      refine RJ.rel (d := (some 58)) (ef := ⟨.lst ((s1 : Int).toNat - (s0 : Int).toNat) 1 (((x1.flatMap (encI .u8)).take ((s1 : Int).toNat * 1)).drop ((s0 : Int).toNat * 1)), [], []⟩) (ef' := ⟨.lst (cut x1 s0 s1).length 1 ((cut x1 s0 s1).flatMap (encI .u8)), [], []⟩) (c := inS s0 s1 x1.length) (tr2 := []) (H2 := [.box [.bool false, .nl, .int .i64 0]]) (by kernel_rfl) hm (fun hc => N.slice (encI_len .u8) hc) (by kernel_rfl) ?_
      obtain ⟨y0, hy9, h36⟩ := bindS h35
      refine kA 59 (slices_Clone_ok hy9) ?_
      refine kC 9 [6,7,10] ?_
      refine kEN ?_
      refine kS ?_
      refine kSR ?_
      refine kC 1 [6,7,10,67] ?_
      obtain ⟨y2, hy10, h37⟩ := bindS h36
      refine kA 68 (dec_Right_ok hy10) ?_
      refine kC 1 [6,7,10,69] ?_
      refine kEN ?_
      refine kBJ 69 h37 (fun h38 => ?_) (fun h39 => ?_)
      ·refine kT ?_
       refine kSR ?_
       refine kC 3 [6,7,10] ?_
       refine kEN ?_
       refine kX ?_
       refine PJ.passRet ?_
       obtain rfl := oi h38
       refine PJ.res (v1 := .tup [.agg [.bool false, .nl, .int .i64 0], .int .i64 11]) (Le.tup (.cons (Le.agg (.cons (Le.refl _) (.cons (Le.nl _) (.cons (Le.refl _) .nil)))) (.cons (Le.refl _) .nil))) ?_
       exact kZ hFn hFH hFD
      ·refine kF ?_
       refine kK ?_
       refine PJ.next ?_
       refine kSR ?_
       refine kC 3 [6,7] ?_
       refine kEN ?_
       refine kX ?_
       obtain rfl := oi h39
       exact kZ hFn hFH hFD
def shape_Read (x0 : St22) (x1 : St25) (x2 : List Int) : Option (St28 × Int) :=
 (Option.bind (shape_cutPower x0 x1 x2) fun y2 => (bif (!y2.2.2) then (some ((⟨false, ([] : List Int), 0⟩ : St28), 10)) else (Option.bind (shape_cutPart x0 y2.1) fun y1 => (bif (!y1.2.2) then (some ((⟨false, ([] : List Int), 0⟩ : St28), 10)) else (Option.bind (sym_Ungrouped x0 y1.1 x1.G1_ x1.G2_) fun y0 => (bif (decide (¬ y0.2.2 = 0)) then (some ((⟨false, ([] : List Int), 0⟩ : St28), 10)) else (bif room (y0.1.length + y1.2.1.length) then (Option.bind (dec_Norm false (y0.1 ++ y1.2.1) ((IntKind.wrap .i64 (y2.2.1 - (y1.2.1.length : Int))))) fun y3 => (bif (decide (¬ y3.2 = 0)) then (some ((⟨false, ([] : List Int), 0⟩ : St28), 10)) else (some (y3.1, 0)))) else none)))))))
theorem shape_Read_ok {x0 : St22} {x1 : St25} {x2 : List Int} {r : St28 × Int} (h : shape_Read x0 x1 x2 = some r) : SC Tryz.prog 18 [.agg (encSt22 x0), .agg (encSt25 x1), lsv (encI .i32) 1 x2] [] (.tup [.agg (encSt28 r.1), .int .i64 r.2]) [] := by
 refine kFn (fn := Tryz.f18) (fun F hFn hFH hFD => ?_)
 unfold shape_Read at h
 refine kSR ?_
 refine kC 4 [2,3,4,6,7] ?_
 refine kEN ?_
 refine kSR ?_
 refine kC 3 [2,3,4,6,7,16,17,18] ?_
 obtain ⟨y2, hy0, h0⟩ := bindS h
 refine kA 19 (shape_cutPower_ok hy0) ?_
 refine kC 7 [2,3,4,6,7,8,9] ?_
 refine kEN ?_
 refine kS ?_
 refine kSR ?_
 refine kC 2 [2,3,4,6,7,8,9,24] ?_
 refine kEN ?_
 refine kBJ 24 h0 (fun h1 => ?_) (fun h2 => ?_)
 ·refine kT ?_
  refine kSR ?_
  refine kC 3 [2,3,4,6,7,8,9] ?_
  refine kEN ?_
  refine kX ?_
  refine PJ.passRet ?_
  obtain rfl := oi h1
  refine PJ.res (v1 := .tup [.agg [.bool false, .nl, .int .i64 0], .int .i64 10]) (Le.tup (.cons (Le.agg (.cons (Le.refl _) (.cons (Le.nl _) (.cons (Le.refl _) .nil)))) (.cons (Le.refl _) .nil))) ?_
  exact kZ hFn hFH hFD
 ·refine kF ?_
  refine kK ?_
  refine PJ.next ?_
  refine kSR ?_
  refine kC 2 [2,3,4,6,7,8,9,27,28] ?_
  obtain ⟨y1, hy1, h3⟩ := bindS h2
  refine kA 29 (shape_cutPart_ok hy1) ?_
  refine kC 7 [2,3,4,6,7,8,9,10] ?_
  refine kEN ?_
  refine kS ?_
  refine kSR ?_
  refine kC 2 [2,3,4,6,7,8,10,34] ?_
  refine kEN ?_
  refine kBJ 34 h3 (fun h4 => ?_) (fun h5 => ?_)
  ·refine kT ?_
   refine kSR ?_
   refine kC 3 [2,3,4,6,7,8,10] ?_
   refine kEN ?_
   refine kX ?_
   refine PJ.passRet ?_
   obtain rfl := oi h4
   refine PJ.res (v1 := .tup [.agg [.bool false, .nl, .int .i64 0], .int .i64 10]) (Le.tup (.cons (Le.agg (.cons (Le.refl _) (.cons (Le.nl _) (.cons (Le.refl _) .nil)))) (.cons (Le.refl _) .nil))) ?_
   exact kZ hFn hFH hFD
  ·refine kF ?_
   refine kK ?_
   refine PJ.next ?_
   refine kSR ?_
   refine kC 6 [6,7,8,10,37,38,40,42] ?_
   obtain ⟨y0, hy2, h6⟩ := bindS h5
   refine kCG (some 43) (args := [.agg (encSt22 x0), lsv (encI .i32) 1 y1.1, .int .i64 x1.G1_, .int .i64 x1.G2_]) (v := .tup [.vc 3, .int .i64 y0.2.1, .int .i64 y0.2.2]) (H2 := [.box (encSt22 x0), .box (encSt25 x1), .box [.bool false, .nl, .int .i64 0], vecL (encI .u8) 1 5 y0.1]) [] (sym_Ungrouped_ok_o hy2) ?_
   refine RJ.seg 7 [6, 7, 8, 10, 11, 13] (L2 := [(6, .ptr 2 0), (7, .int .i64 0), (8, .int .i64 y2.2.1), (10, lsv (encI .u8) 1 y1.2.1), (11, .vc 3), (13, .int .i64 y0.2.2)]) (H2 := [.box (encSt22 x0), .box (encSt25 x1), .box [.bool false, .nl, .int .i64 0], vecL (encI .u8) 1 5 y0.1]) (by kernel_rfl) ?_
   refine kEN ?_
   refine kS ?_
   refine kSR ?_
   refine kC 2 [6,7,8,10,11,13,48] ?_
   refine kEN ?_
   refine kBJ 48 h6 (fun h7 => ?_) (fun h8 => ?_)
   ·refine kT ?_
    refine kSR ?_
    refine kC 3 [6,7,8,10,11,13] ?_
    refine kEN ?_
    refine kX ?_
    refine PJ.passRet ?_
    obtain rfl := oi h7
    refine PJ.res (v1 := .tup [.agg [.bool false, .nl, .int .i64 0], .int .i64 10]) (Le.tup (.cons (Le.agg (.cons (Le.refl _) (.cons (Le.nl _) (.cons (Le.refl _) .nil)))) (.cons (Le.refl _) .nil))) ?_
    exact kZ hFn hFH hFD
   ·refine kF ?_
    refine kK ?_
    refine PJ.next ?_
    refine kSR ?_
    refine kC 2 [6,7,8,10,13,51,52] ?_
    obtain ⟨hm, h9⟩ := asrt h8
    refine RJ.rel (d := (some 53)) (ef := ⟨.vc 4, [3], [(3, .gone), (4, .vec (y0.1.length + y1.2.1.length) 1 5 (y0.1.flatMap (encI .u8) ++ y1.2.1.flatMap (encI .u8)))]⟩) (ef' := ⟨.vc 4, [3], [(3, .gone), (4, vecL (encI .u8) 1 5 (y0.1 ++ y1.2.1))]⟩) (c := roomB (y0.1.length + y1.2.1.length)) (tr2 := []) (H2 := [.box (encSt22 x0), .box (encSt25 x1), .box [.bool false, .nl, .int .i64 0], .gone, vecL (encI .u8) 1 5 (y0.1 ++ y1.2.1)]) (by kernel_rfl) (roomB_of_room hm) (fun hc => N.app) (by kernel_rfl) ?_
    refine kC 4 [6,7,13,53,57] ?_
    obtain ⟨y3, hy3, h10⟩ := bindS h9
    refine RJ.wk (Wk.freeze 4 (n := (y0.1 ++ y1.2.1).length) (k := 1) (e := 5) (cs := (y0.1 ++ y1.2.1).flatMap (encI .u8)) (by kernel_rfl)) ?_
    refine kA 58 (dec_Norm_ok hy3) ?_
    refine kC 6 [6,7,13,14] ?_
    refine kEN ?_
    refine kS ?_
    refine kSR ?_
    refine kC 2 [6,7,14,62] ?_
    refine kEN ?_
    refine kBJ 62 h10 (fun h11 => ?_) (fun h12 => ?_)
    ·refine kT ?_
     refine kSR ?_
     refine kC 3 [6,7,14] ?_
     refine kEN ?_
     refine kX ?_
     refine PJ.passRet ?_
     obtain rfl := oi h11
     refine PJ.res (v1 := .tup [.agg [.bool false, .nl, .int .i64 0], .int .i64 10]) (Le.tup (.cons (Le.agg (.cons (Le.refl _) (.cons (Le.nl _) (.cons (Le.refl _) .nil)))) (.cons (Le.refl _) .nil))) ?_
     exact kZ hFn hFH hFD
    ·refine kF ?_
     refine kK ?_
     refine PJ.next ?_
     refine kSR ?_
     refine kC 3 [6,7] ?_
     refine kEN ?_
     refine kX ?_
     obtain rfl := oi h12
     exact kZ hFn hFH hFD
def round_Is (x0 : Int) : Option (Bool) :=
 (Option.bind (bif (decide (x0 ≥ 0)) then (some (decide (x0 ≤ 7))) else (some false)) fun (s0 : Bool) => (some s0))
theorem round_Is_ok {x0 : Int} {r : Bool} (h : round_Is x0 = some r) : SC Tryz.prog 64 [.int .i64 x0] [] (.bool r) [] := by
 refine kFn (fn := Tryz.f64) (fun F hFn hFH hFD => ?_)
 unfold round_Is at h
 refine kSR ?_
 refine kC 1 [0,2] ?_
 refine kEN ?_
 obtain ⟨s0, hy0, h0⟩ := bindS h
 refine K.cutN (by kernel_rfl) (fun (s0 : Bool) => ([(2, .bool s0)], [])) s0 ?_ ?_
 ·refine kR ?_
  refine kC 3 [0,2,5] ?_
  refine kB 5 hy0 (fun h1 => ?_) (fun h2 => ?_)
  ·refine kC 4 [2] ?_
   refine kE ?_
   obtain rfl := oi h1
   exact kN [2]
  ·refine kC 4 [2] ?_
   refine kE ?_
   obtain rfl := oi h2
   exact kN [2]
 ·refine kX ?_
  obtain rfl := oi h0
  exact kZ hFn hFH hFD
def round_unit (x0 : Int) (x1 : Int) : Option (Bool) :=
 (Option.bind (bif (decide (x0 ≥ 1)) then (bif (decide (x0 ≤ 1000000000)) then (bif (decide (x1 ≥ (-1000))) then (some (decide (x1 ≤ 1000))) else (some false)) else (some false)) else (some false)) fun (s0 : Bool) => (some s0))
theorem round_unit_ok {x0 : Int} {x1 : Int} {r : Bool} (h : round_unit x0 x1 = some r) : SC Tryz.prog 89 [.int .i64 x0, .int .i64 x1] [] (.bool r) [] := by
 refine kFn (fn := Tryz.f89) (fun F hFn hFH hFD => ?_)
 unfold round_unit at h
 refine kSR ?_
 refine kC 1 [0,1,4] ?_
 refine kEN ?_
 obtain ⟨s0, hy0, h0⟩ := bindS h
 refine K.cutN (by kernel_rfl) (fun (s0 : Bool) => ([(4, .bool s0)], [])) s0 ?_ ?_
 ·refine kR ?_
  refine kC 3 [0,1,4,7] ?_
  refine kB 7 hy0 (fun h1 => ?_) (fun h2 => ?_)
  ·refine kC 4 [1,4,11] ?_
   refine kB 11 h1 (fun h3 => ?_) (fun h4 => ?_)
   ·refine kC 4 [1,4,15] ?_
    refine kB 15 h3 (fun h5 => ?_) (fun h6 => ?_)
    ·refine kC 4 [4] ?_
     refine kE ?_
     obtain rfl := oi h5
     exact kN [4]
    ·refine kC 4 [4] ?_
     refine kE ?_
     obtain rfl := oi h6
     exact kN [4]
   ·refine kC 8 [4] ?_
    refine kE ?_
    obtain rfl := oi h4
    exact kN [4]
  ·refine kC 12 [4] ?_
   refine kE ?_
   obtain rfl := oi h2
   exact kN [4]
 ·refine kX ?_
  obtain rfl := oi h0
  exact kZ hFn hFH hFD
def round_split (x0 : St28) (x1 : Int) (x2 : Int) : Option ((List Int) × Int) :=
 (Option.bind (Option.bind (dec_Mag x0) fun y1 => (loopN (fun (s0 : Int × Int × (List Int)) => (bif (decide (s0.2.1 ≥ x2)) then (Option.bind (dec_At x0 s0.2.1) fun y0 => (bif nz x1 then (bif room (s0.2.2.length + (([(IntKind.wrap .u8 ((IntKind.wrap .i64 (Int.tdiv ((IntKind.wrap .i64 ((IntKind.wrap .i64 (s0.1 * 10)) + (IntKind.wrap .i64 y0)))) x1))))] : List Int)).length) then (bif nz x1 then (some (.inl ((Int.tmod ((IntKind.wrap .i64 ((IntKind.wrap .i64 (s0.1 * 10)) + (IntKind.wrap .i64 y0)))) x1), (IntKind.wrap .i64 (s0.2.1 - 1)), (s0.2.2 ++ (([(IntKind.wrap .u8 ((IntKind.wrap .i64 (Int.tdiv ((IntKind.wrap .i64 ((IntKind.wrap .i64 (s0.1 * 10)) + (IntKind.wrap .i64 y0)))) x1))))] : List Int)))))) else none) else none) else none)) else (some (.inr (s0.1, s0.2.2))))) big (0, y1, ([] : List Int)))) fun (s1 : Int × (List Int)) => (some (s1.2, s1.1)))
theorem round_split_ok_o {x0 : St28} {x1 : Int} {x2 : Int} {r : (List Int) × Int} (h : round_split x0 x1 x2 = some r) : SC Tryz.prog 90 [.agg (encSt28 x0), .int .i64 x1, .int .i64 x2] [] (.tup [.vc 0, .int .i64 r.2]) [vecL (encI .u8) 1 5 r.1] := by
 refine kFn (fn := Tryz.f90) (fun F hFn hFH hFD => ?_)
 unfold round_split at h
 refine kSR ?_
 refine kC 3 [1,2,3,6,7] ?_
 refine kEN ?_
 refine kSR ?_
 refine kC 1 [1,2,3,6,7,8] ?_
 refine kEN ?_
 refine kSR ?_
 refine kC 1 [1,2,3,6,7,8,9] ?_
 refine kEN ?_
 obtain ⟨s1, hy0, h0⟩ := bindS h
 refine K.cutN (by kernel_rfl) (fun (s1 : Int × (List Int)) => ([(6, .nl), (7, .int .i64 0), (8, .vc 0), (9, .int .i64 s1.1)], [vecL (encI .u8) 1 5 s1.2])) s1 ?_ ?_
 ·refine kSR ?_
  refine kC 1 [1,2,3,6,7,8,9,11] ?_
  obtain ⟨y1, hy1, h1⟩ := bindS hy0
  refine kA 12 (dec_Mag_ok hy1) ?_
  refine kC 1 [1,2,3,6,7,8,9,10] ?_
  refine kEN ?_
  refine kb 0 ?_
  refine J.wk (Wk.viv 8 1 5 (by kernel_rfl)) ?_
  refine kl (fun (s0 : Int × Int × (List Int)) => ([(1, .int .i64 x1), (2, .int .i64 x2), (3, .ptr 0 0), (6, .nl), (7, .int .i64 0), (8, .vc 1), (9, .int .i64 s0.1), (10, .int .i64 s0.2.1)], [.box (encSt28 x0), vecL (encI .u8) 1 5 s0.2.2])) h1 [1, 2, 3, 6, 7, 8, 9, 10] (fun s0 x72 hs0 => ?_)
  refine kS ?_
  refine kSR ?_
  refine kC 3 [1,2,3,6,7,8,9,10,15] ?_
  refine kEN ?_
  refine kBJ 15 hs0 (fun h2 => ?_) (fun h3 => ?_)
  ·refine kT ?_
   refine kK ?_
   refine PJ.next ?_
   refine kS ?_
   refine kb 1 ?_
   refine kSR ?_
   refine kC 4 [1,2,3,6,7,8,9,10,19,20,21] ?_
   obtain ⟨y0, hy2, h4⟩ := bindS h2
   refine kA 22 (dec_At_ok hy2) ?_
   refine kC 3 [1,2,3,6,7,8,9,10] ?_
   refine kEN ?_
   refine kSR ?_
   refine kC 3 [1,2,3,6,7,8,9,10,25,26,27] ?_
   obtain ⟨hm, h5⟩ := asrt h4
   refine kQ 28 (.int .i64 (IntKind.wrap .i64 (Int.tdiv ((IntKind.wrap .i64 ((IntKind.wrap .i64 (s0.1 * 10)) + (IntKind.wrap .i64 y0)))) x1))) [] (tr2 := []) hm ?_
   refine kC 2 [1,2,3,6,7,8,9,10,25,30] ?_
   obtain ⟨hm, h6⟩ := asrt h5
   refine RJ.rel (d := (some 31)) (ef := ⟨.vc 3, [1, 2], [(1, .gone), (3, .vec (s0.2.2.length + (([(IntKind.wrap .u8 ((IntKind.wrap .i64 (Int.tdiv ((IntKind.wrap .i64 ((IntKind.wrap .i64 (s0.1 * 10)) + (IntKind.wrap .i64 y0)))) x1))))] : List Int)).length) 1 5 (s0.2.2.flatMap (encI .u8) ++ (([(IntKind.wrap .u8 ((IntKind.wrap .i64 (Int.tdiv ((IntKind.wrap .i64 ((IntKind.wrap .i64 (s0.1 * 10)) + (IntKind.wrap .i64 y0)))) x1))))] : List Int)).flatMap (encI .u8)))]⟩) (ef' := ⟨.vc 3, [1, 2], [(1, .gone), (3, vecL (encI .u8) 1 5 (s0.2.2 ++ (([(IntKind.wrap .u8 ((IntKind.wrap .i64 (Int.tdiv ((IntKind.wrap .i64 ((IntKind.wrap .i64 (s0.1 * 10)) + (IntKind.wrap .i64 y0)))) x1))))] : List Int))))]⟩) (c := roomB (s0.2.2.length + (([(IntKind.wrap .u8 ((IntKind.wrap .i64 (Int.tdiv ((IntKind.wrap .i64 ((IntKind.wrap .i64 (s0.1 * 10)) + (IntKind.wrap .i64 y0)))) x1))))] : List Int)).length)) (tr2 := []) (H2 := [.box (encSt28 x0), .gone, vecL (encI .u8) 1 5 (([(IntKind.wrap .u8 ((IntKind.wrap .i64 (Int.tdiv ((IntKind.wrap .i64 ((IntKind.wrap .i64 (s0.1 * 10)) + (IntKind.wrap .i64 y0)))) x1))))] : List Int)), vecL (encI .u8) 1 5 ((s0.2.2 ++ (([(IntKind.wrap .u8 ((IntKind.wrap .i64 (Int.tdiv ((IntKind.wrap .i64 ((IntKind.wrap .i64 (s0.1 * 10)) + (IntKind.wrap .i64 y0)))) x1))))] : List Int))))]) (by kernel_rfl) (roomB_of_room hm) (fun hc => N.app) (by kernel_rfl) ?_
   refine kC 1 [1,2,3,6,7,8,9,10] ?_
   refine kEN ?_
   refine kR ?_
   refine kC 2 [1,2,3,6,7,8,9,10,32,33] ?_
   obtain ⟨hm, h7⟩ := asrt h6
   refine kQ 34 (.int .i64 (Int.tmod ((IntKind.wrap .i64 ((IntKind.wrap .i64 (s0.1 * 10)) + (IntKind.wrap .i64 y0)))) x1)) [] (tr2 := []) hm ?_
   refine kC 1 [1,2,3,6,7,8,9,10] ?_
   refine kE ?_
   refine PJ.blockNormal ?_
   refine PJ.next ?_
   refine kR ?_
   refine RJ.seg 3 [1, 2, 3, 6, 7, 8, 9, 10] (L2 := [(1, .int .i64 x1), (2, .int .i64 x2), (3, .ptr 0 0), (6, .nl), (7, .int .i64 0), (8, .vc 3), (9, .int .i64 ((Int.tmod ((IntKind.wrap .i64 ((IntKind.wrap .i64 (s0.1 * 10)) + (IntKind.wrap .i64 y0)))) x1))), (10, .int .i64 (IntKind.wrap .i64 (s0.2.1 - 1)))]) (H2 := [.box (encSt28 x0), .gone, vecL (encI .u8) 1 5 (([(IntKind.wrap .u8 ((IntKind.wrap .i64 (Int.tdiv ((IntKind.wrap .i64 ((IntKind.wrap .i64 (s0.1 * 10)) + (IntKind.wrap .i64 y0)))) x1))))] : List Int)), vecL (encI .u8) 1 5 ((s0.2.2 ++ (([(IntKind.wrap .u8 ((IntKind.wrap .i64 (Int.tdiv ((IntKind.wrap .i64 ((IntKind.wrap .i64 (s0.1 * 10)) + (IntKind.wrap .i64 y0)))) x1))))] : List Int))))]) (by kernel_rfl) ?_
   refine kE ?_
   obtain rfl := oi h7
   refine kW (L2 := [(1, .int .i64 x1), (2, .int .i64 x2), (3, .ptr 0 0), (6, .nl), (7, .int .i64 0), (8, .vc 1), (9, .int .i64 ((Int.tmod ((IntKind.wrap .i64 ((IntKind.wrap .i64 (s0.1 * 10)) + (IntKind.wrap .i64 y0)))) x1))), (10, .int .i64 (IntKind.wrap .i64 (s0.2.1 - 1)))]) (H2 := [.box (encSt28 x0), vecL (encI .u8) 1 5 ((s0.2.2 ++ (([(IntKind.wrap .u8 ((IntKind.wrap .i64 (Int.tdiv ((IntKind.wrap .i64 ((IntKind.wrap .i64 (s0.1 * 10)) + (IntKind.wrap .i64 y0)))) x1))))] : List Int))))]) hFH hFD [0, 3] ?_
   exact kLN [1, 2, 3, 6, 7, 8, 9, 10]
  ·refine kF ?_
   refine K.exit 0 (by kernel_rfl) ?_
   refine PJ.passExit ?_
   obtain rfl := oi h3
   refine PJ.loopOut (fun e => nomatch e) (fun he0 => ?_)
   have h8 := congrArg some he0
   refine PJ.blockOut ?_
   obtain rfl := oi h8
   refine kW (L2 := [(6, .nl), (7, .int .i64 0), (8, .vc 0), (9, .int .i64 s0.1)]) (H2 := [vecL (encI .u8) 1 5 s0.2.2]) hFH hFD [1] ?_
   exact kN [6, 7, 8, 9]
 ·refine kSR ?_
  refine kC 4 [6,7] ?_
  refine kEN ?_
  refine kX ?_
  obtain rfl := oi h0
  exact kV [0] hFn hFH hFD (v1 := .tup [.vc 0, .int .i64 s1.1])
def round_below (x0 : St28) (x1 : Int) : Option (Bool) :=
 (Option.bind (bif (decide ((x0.D_.length : Int) > 0)) then (some (decide (x0.E_ < x1))) else (some false)) fun (s0 : Bool) => (some s0))
theorem round_below_ok {x0 : St28} {x1 : Int} {r : Bool} (h : round_below x0 x1 = some r) : SC Tryz.prog 91 [.agg (encSt28 x0), .int .i64 x1] [] (.bool r) [] := by
 refine kFn (fn := Tryz.f91) (fun F hFn hFH hFD => ?_)
 unfold round_below at h
 refine kSR ?_
 refine kC 2 [1,2,4] ?_
 refine kEN ?_
 obtain ⟨s0, hy0, h0⟩ := bindS h
 refine K.cutN (by kernel_rfl) (fun (s0 : Bool) => ([(4, .bool s0)], [])) s0 ?_ ?_
 ·refine kR ?_
  refine kC 5 [1,2,4,9] ?_
  refine kB 9 hy0 (fun h1 => ?_) (fun h2 => ?_)
  ·refine kC 6 [4] ?_
   refine kE ?_
   obtain rfl := oi h1
   refine kW (L2 := [(4, .bool (decide (x0.E_ < x1)))]) (H2 := []) hFH hFD [] ?_
   exact kN [4]
  ·refine kC 6 [4] ?_
   refine kE ?_
   obtain rfl := oi h2
   refine kW (L2 := [(4, .bool false)]) (H2 := []) hFH hFD [] ?_
   exact kN [4]
 ·refine kX ?_
  obtain rfl := oi h0
  exact kZ hFn hFH hFD
def round_middle (x0 : St28) (x1 : Int) (x2 : Int) (x3 : Int) : Option (Int) :=
 (Option.bind (dec_At x0 (IntKind.wrap .i64 (x3 - 1))) fun y0 => (Option.bind (bif (decide (y0 ≥ 5)) then (some ((IntKind.wrap .i64 ((IntKind.wrap .i64 (2 * x1)) + 1)))) else (some (IntKind.wrap .i64 (2 * x1)))) fun (s0 : Int) => (Option.bind (bif (decide (s0 < x2)) then (some (.inr (-1))) else (Option.bind (bif (decide (s0 > x2)) then (some true) else (bif (decide (¬ (Int.tmod y0 5) = 0)) then (some true) else (Option.bind (round_below x0 (IntKind.wrap .i64 (x3 - 1))) fun y1 => (some y1)))) fun (s1 : Bool) => (bif s1 then (some (.inr 1)) else (some (.inl ()))))) (joinX fun (s2 : Unit) => (some 0)))))
theorem round_middle_ok {x0 : St28} {x1 : Int} {x2 : Int} {x3 : Int} {r : Int} (h : round_middle x0 x1 x2 x3 = some r) : SC Tryz.prog 92 [.agg (encSt28 x0), .int .i64 x1, .int .i64 x2, .int .i64 x3] [] (.int .i64 r) [] := by
 refine kFn (fn := Tryz.f92) (fun F hFn hFH hFD => ?_)
 unfold round_middle at h
 refine kSR ?_
 refine kC 2 [1,2,3,4,8] ?_
 refine kEN ?_
 refine kSR ?_
 refine kC 3 [1,2,3,4,8,11,13] ?_
 obtain ⟨y0, hy0, h1⟩ := bindS h
 refine kA 14 (dec_At_ok hy0) ?_
 refine kC 1 [1,2,3,4,8,9] ?_
 refine kEN ?_
 refine kSR ?_
 refine kC 3 [2,3,4,8,9,10] ?_
 refine kEN ?_
 obtain ⟨s0, hy1, h2⟩ := bindS h1
 refine K.cutN (by kernel_rfl) (fun (s0 : Int) => ([(2, .int .i64 x2), (3, .int .i64 x3), (4, .ptr 0 0), (8, .int .i64 0), (9, .int .u8 y0), (10, .int .i64 s0)], [.box (encSt28 x0)])) s0 ?_ ?_
 ·refine kSR ?_
  refine kC 2 [2,3,4,8,9,10,18] ?_
  refine kEN ?_
  refine kBJ 18 hy1 (fun h3 => ?_) (fun h4 => ?_)
  ·refine kT ?_
   refine kR ?_
   refine kC 3 [2,3,4,8,9,10] ?_
   refine kE ?_
   obtain rfl := oi h3
   exact kN [2, 3, 4, 8, 9, 10]
  ·refine kF ?_
   refine kK ?_
   obtain rfl := oi h4
   exact kN [2, 3, 4, 8, 9, 10]
 ·obtain ⟨y2, hy2, h0⟩ := bindS h2
  refine K.cutX (by kernel_rfl) (fun (s2 : Unit) => ([(8, .int .i64 0)], [])) y2 ?_ (fun s2 hs => ?_)
  ·refine kb 0 ?_
   refine kSR ?_
   refine kC 4 [2,3,4,8,9,10,21] ?_
   refine kEN ?_
   refine kBJ 21 hy2 (fun h5 => ?_) (fun h6 => ?_)
   ·refine kT ?_
    refine kSR ?_
    refine kC 1 [8] ?_
    refine kEN ?_
    refine kX ?_
    refine PJ.blockRet ?_
    obtain rfl := oi h5
    have h7 := joinX_inr h0
    refine PJ.cutXr (fun e => nomatch e) ?_
    obtain rfl := oi h7
    exact kZ hFn hFH hFD
   ·refine kF ?_
    obtain ⟨s1, hy3, h8⟩ := bindS h6
    refine K.cutN (by kernel_rfl) (fun (s1 : Bool) => ([(8, .int .i64 0), (25, .bool s1)], [])) s1 ?_ ?_
    ·refine kR ?_
     refine kC 4 [3,4,8,9,29] ?_
     refine kB 29 hy3 (fun h9 => ?_) (fun h10 => ?_)
     ·refine kC 11 [8,25] ?_
      refine kE ?_
      obtain rfl := oi h9
      refine kW (L2 := [(8, .int .i64 0), (25, .bool true)]) (H2 := []) hFH hFD [] ?_
      exact kN [8, 25]
     ·refine kC 5 [3,4,8,34] ?_
      refine kB 34 h10 (fun h11 => ?_) (fun h12 => ?_)
      ·refine kC 6 [8,25] ?_
       refine kE ?_
       obtain rfl := oi h11
       refine kW (L2 := [(8, .int .i64 0), (25, .bool true)]) (H2 := []) hFH hFD [] ?_
       exact kN [8, 25]
      ·refine kC 3 [8,34,35,37] ?_
       obtain ⟨y1, hy4, h13⟩ := bindS h12
       refine kA 38 (round_below_ok hy4) ?_
       refine kC 2 [8,25] ?_
       refine kE ?_
       obtain rfl := oi h13
       refine kW (L2 := [(8, .int .i64 0), (25, .bool y1)]) (H2 := []) hFH hFD [] ?_
       exact kN [8, 25]
    ·refine kBJ 25 h8 (fun h14 => ?_) (fun h15 => ?_)
     ·refine kT ?_
      refine kSR ?_
      refine kC 1 [8] ?_
      refine kEN ?_
      refine kX ?_
      refine PJ.blockRet ?_
      obtain rfl := oi h14
      have h16 := joinX_inr h0
      refine PJ.cutXr (fun e => nomatch e) ?_
      obtain rfl := oi h16
      exact kZ hFn hFH hFD
     ·refine kF ?_
      refine kK ?_
      refine PJ.blockNormal ?_
      obtain rfl := oi h15
      exact kXl [8]
  ·subst hs
   have h17 := joinX_inl h0
   refine kSR ?_
   refine kC 1 [8] ?_
   refine kEN ?_
   refine kX ?_
   obtain rfl := oi h17
   exact kZ hFn hFH hFD
structure St123 where
 neg_ : Bool
 odd_ : Bool
 half_ : Int
 deriving Inhabited, DecidableEq
def encSt123 (x : St123) : List SV := [.bool x.neg_, .bool x.odd_, .int .i64 x.half_]
theorem encSt123_len (x : St123) : (encSt123 x).length = 3 := rfl
def round_ways_s0 (x0 : St123) : Option (Unit) :=
 (some ())
theorem round_ways_s0_ok {x0 : St123} {r : Unit} (h : round_ways_s0 x0 = some r) : SC Tryz.prog 93 [.agg (encSt123 x0)] [] (.mp 0) [.map [(.int .i64 0, .fn (.func 114) [] []), (.int .i64 1, .fn (.func 115) [] []), (.int .i64 2, .fn (.func 116) [] [.ptr 1 0]), (.int .i64 3, .fn (.func 117) [] [.ptr 1 0]), (.int .i64 4, .fn (.func 118) [] [.ptr 2 0]), (.int .i64 5, .fn (.func 119) [] [.ptr 2 0]), (.int .i64 6, .fn (.func 120) [] [.ptr 2 0, .ptr 1 0]), (.int .i64 7, .fn (.func 121) [] [.ptr 2 0, .ptr 1 0])], .box (encSt123 x0), .box [.fn (.func 113) [] [.ptr 1 0]]] := by
 refine kFn (fn := Tryz.f93) (fun F hFn hFH hFD => ?_)
 unfold round_ways_s0 at h
 refine kSR ?_
 refine kC 2 [1] ?_
 refine kEN ?_
 refine kSR ?_
 refine kC 3 [1,3] ?_
 refine kEN ?_
 refine kSR ?_
 refine kC 17 [2] ?_
 refine kEN ?_
 refine kX ?_
 obtain rfl := oi h
 exact kV [2, 0, 1] hFn hFH hFD (v1 := .mp 2)
def round_ways_2  : Option (Bool) :=
 (some true)
theorem round_ways_2_ok  {r : Bool} (h : round_ways_2 = some r) : SC Tryz.prog 114 [] [] (.bool r) [] := by
 refine kFn (fn := Tryz.f114) (fun F hFn hFH hFD => ?_)
 unfold round_ways_2 at h
 refine kSR ?_
 refine kC 1 [0] ?_
 refine kEN ?_
 refine kSR ?_
 refine kC 1 [0] ?_
 refine kEN ?_
 refine kX ?_
 obtain rfl := oi h
 exact kZ hFn hFH hFD
def round_next (x0 : List Int) : Option (List Int) :=
 (Option.bind (loopN (fun (s0 : Int × (List Int)) => (bif (decide (s0.1 ≥ 0)) then (bif inR s0.1 s0.2.length then (bif inR s0.1 s0.2.length then (bif (decide ((nth s0.2 s0.1) < 9)) then (bif inR s0.1 s0.2.length then (bif inR s0.1 s0.2.length then (bif inR s0.1 s0.2.length then (bif inR s0.1 s0.2.length then (some (.inr (.inr (setAt s0.2 s0.1 ((IntKind.wrap .u8 ((nth s0.2 s0.1) + 1))))))) else none) else none) else none) else none) else (bif inR s0.1 s0.2.length then (bif inR s0.1 s0.2.length then (some (.inl ((IntKind.wrap .i64 (s0.1 - 1)), (setAt s0.2 s0.1 0)))) else none) else none)) else none) else none) else (some (.inr (.inl s0.2))))) big ((IntKind.wrap .i64 ((x0.length : Int) - 1)), x0)) (joinX fun (s1 : (List Int)) => (bif room (([1] : List Int).length + s1.length) then (some (([1] : List Int) ++ s1)) else none)))
theorem round_next_ok_0 {x0 : List Int} {r : List Int} (h : round_next x0 = some r) : SC Tryz.prog 94 [.vc 0] [vecL (encI .u8) 1 5 x0] (lsv (encI .u8) 1 r) [.gone] := by
 refine kFn (fn := Tryz.f94) (fun F hFn hFH hFD => ?_)
 unfold round_next at h
 refine kSR ?_
 refine kC 1 [0,2] ?_
 refine kEN ?_
 obtain ⟨y0, hy0, h0⟩ := bindS h
 refine K.cutX (by kernel_rfl) (fun (s1 : (List Int)) => ([(0, .vc 0), (2, .nl)], [vecL (encI .u8) 1 5 s1])) y0 ?_ (fun s1 hs => ?_)
 ·refine kSR ?_
  refine kC 4 [0,2,3] ?_
  refine kEN ?_
  refine kb 0 ?_
  refine kl (fun (s0 : Int × (List Int)) => ([(0, .vc 0), (2, .nl), (3, .int .i64 s0.1)], [vecL (encI .u8) 1 5 s0.2])) hy0 [0, 2, 3] (fun s0 x106 hs0 => ?_)
  refine kS ?_
  refine kSR ?_
  refine kC 2 [0,2,3,8] ?_
  refine kEN ?_
  refine kBJ 8 hs0 (fun h1 => ?_) (fun h2 => ?_)
  ·refine kT ?_
   refine kK ?_
   refine PJ.next ?_
   refine kS ?_
   refine kb 1 ?_
   refine kS ?_
   refine kSR ?_
   refine kC 2 [0,2,3,11,12] ?_
   obtain ⟨hm, h3⟩ := asrt h1
   refine kQ 13 (.ptr 0 ((s0.1 : Int).toNat * 1)) [0] (tr2 := []) hm ?_
   obtain ⟨hm, h4⟩ := asrt h3
   refine RJ.rel (d := (some 14)) (ef := ⟨(((s0.2).flatMap (encI .u8)).drop ((s0.1 : Int).toNat * 1)).headD .undef, [0], []⟩) (ef' := ⟨.int .u8 (nth s0.2 s0.1), [0], []⟩) (c := Nat.blt ((s0.1 : Int).toNat * 1) (s0.2.flatMap (encI .u8)).length) (tr2 := []) (H2 := [vecL (encI .u8) 1 5 s0.2]) (by kernel_rfl) (loadv_ok (encI_len .u8) rfl hm) (fun hc => N.load1 (encI_len .u8) (fun _ => rfl) hm) (by kernel_rfl) ?_
   refine kC 1 [0,2,3,15] ?_
   refine kEN ?_
   refine kBJ 15 h4 (fun h5 => ?_) (fun h6 => ?_)
   ·refine kT ?_
    refine kSR ?_
    refine kC 2 [0,2,3,16,17] ?_
    obtain ⟨hm, h7⟩ := asrt h5
    refine kQ 18 (.ptr 0 ((s0.1 : Int).toNat * 1)) [0] (tr2 := []) hm ?_
    obtain ⟨hm, h8⟩ := asrt h7
    refine RJ.rel (d := (some 19)) (ef := ⟨(((s0.2).flatMap (encI .u8)).drop ((s0.1 : Int).toNat * 1)).headD .undef, [0], []⟩) (ef' := ⟨.int .u8 (nth s0.2 s0.1), [0], []⟩) (c := Nat.blt ((s0.1 : Int).toNat * 1) (s0.2.flatMap (encI .u8)).length) (tr2 := []) (H2 := [vecL (encI .u8) 1 5 s0.2]) (by kernel_rfl) (loadv_ok (encI_len .u8) rfl hm) (fun hc => N.load1 (encI_len .u8) (fun _ => rfl) hm) (by kernel_rfl) ?_
    refine kC 1 [0,2,3,16,17,20] ?_
    obtain ⟨hm, h9⟩ := asrt h8
    refine kQ 21 (.ptr 0 ((s0.1 : Int).toNat * 1)) [0] (tr2 := []) hm ?_
    obtain ⟨hm, h10⟩ := asrt h9
    refine RJ.rel (d := none) (ef := ⟨.undef, [0], [(0, .vec (s0.2).length 1 5 (splice ((s0.2).flatMap (encI .u8)) ((s0.1 : Int).toNat * 1) ((encI .u8) ((IntKind.wrap .u8 ((nth s0.2 s0.1) + 1))))))]⟩) (ef' := ⟨.undef, [0], [(0, vecL (encI .u8) 1 5 (setAt s0.2 s0.1 ((IntKind.wrap .u8 ((nth s0.2 s0.1) + 1)))))]⟩) (c := Nat.ble (((s0.1 : Int).toNat * 1) + ((encI .u8) ((IntKind.wrap .u8 ((nth s0.2 s0.1) + 1)))).length) (s0.2.flatMap (encI .u8)).length) (tr2 := []) (H2 := [vecL (encI .u8) 1 5 ((setAt s0.2 s0.1 ((IntKind.wrap .u8 ((nth s0.2 s0.1) + 1)))))]) (by kernel_rfl) (storev_ok (encI_len .u8) hm) (fun hc => N.store (encI_len .u8) hm) (by kernel_rfl) ?_
    refine kEN ?_
    refine kSR ?_
    refine kC 2 [0,2,3] ?_
    refine kEN ?_
    refine kX ?_
    refine PJ.passRet ?_
    refine PJ.blockRet ?_
    refine PJ.passRet ?_
    obtain rfl := oi h10
    refine PJ.loopOut (fun e => nomatch e) (fun he0 => ?_)
    have h11 := congrArg some he0
    refine PJ.blockRet ?_
    obtain rfl := oi h11
    have h12 := joinX_inr h0
    refine PJ.cutXr (fun e => nomatch e) ?_
    obtain rfl := oi h12
    refine PJ.wk (Wk.freeze 0 (n := ((setAt s0.2 s0.1 ((IntKind.wrap .u8 ((nth s0.2 s0.1) + 1))))).length) (k := 1) (e := 5) (cs := ((setAt s0.2 s0.1 ((IntKind.wrap .u8 ((nth s0.2 s0.1) + 1))))).flatMap (encI .u8)) (by kernel_rfl)) ?_
    exact kV [0] hFn hFH hFD (v1 := lsv (encI .u8) 1 ((setAt s0.2 s0.1 ((IntKind.wrap .u8 ((nth s0.2 s0.1) + 1))))))
   ·refine kF ?_
    refine kK ?_
    refine PJ.next ?_
    refine kR ?_
    refine kC 2 [0,2,3,23,24] ?_
    obtain ⟨hm, h13⟩ := asrt h6
    refine kQ 25 (.ptr 0 ((s0.1 : Int).toNat * 1)) [0] (tr2 := []) hm ?_
    obtain ⟨hm, h14⟩ := asrt h13
    refine RJ.rel (d := none) (ef := ⟨.undef, [0], [(0, .vec (s0.2).length 1 5 (splice ((s0.2).flatMap (encI .u8)) ((s0.1 : Int).toNat * 1) ((encI .u8) 0)))]⟩) (ef' := ⟨.undef, [0], [(0, vecL (encI .u8) 1 5 (setAt s0.2 s0.1 0))]⟩) (c := Nat.ble (((s0.1 : Int).toNat * 1) + ((encI .u8) 0).length) (s0.2.flatMap (encI .u8)).length) (tr2 := []) (H2 := [vecL (encI .u8) 1 5 (setAt s0.2 s0.1 0)]) (by kernel_rfl) (storev_ok (encI_len .u8) hm) (fun hc => N.store (encI_len .u8) hm) (by kernel_rfl) ?_
    refine kE ?_
    refine PJ.blockNormal ?_
    refine PJ.next ?_
    refine kR ?_
    refine kC 3 [0,2,3] ?_
    refine kE ?_
    obtain rfl := oi h14
    exact kLN [0, 2, 3]
  ·refine kF ?_
   refine K.exit 0 (by kernel_rfl) ?_
   refine PJ.passExit ?_
   obtain rfl := oi h2
   refine PJ.loopOut (fun e => nomatch e) (fun he1 => ?_)
   have h15 := congrArg some he1
   refine PJ.blockOut ?_
   obtain rfl := oi h15
   exact kXl [0, 2]
 ·subst hs
  have h16 := joinX_inl h0
  refine kSR ?_
  refine kC 2 [2,26,27] ?_
  obtain ⟨hm, h17⟩ := asrt h16
  refine RJ.rel (d := (some 28)) (ef := ⟨.vc 2, [1, 0], [(1, .gone), (2, .vec (([1] : List Int).length + s1.length) 1 5 (([1] : List Int).flatMap (encI .u8) ++ s1.flatMap (encI .u8)))]⟩) (ef' := ⟨.vc 2, [1, 0], [(1, .gone), (2, vecL (encI .u8) 1 5 (([1] : List Int) ++ s1))]⟩) (c := roomB (([1] : List Int).length + s1.length)) (tr2 := []) (H2 := [vecL (encI .u8) 1 5 s1, .gone, vecL (encI .u8) 1 5 (([1] : List Int) ++ s1)]) (by kernel_rfl) (roomB_of_room hm) (fun hc => N.app) (by kernel_rfl) ?_
  refine kC 1 [2] ?_
  refine kEN ?_
  refine kX ?_
  obtain rfl := oi h17
  refine PJ.wk (Wk.freeze 2 (n := (([1] : List Int) ++ s1).length) (k := 1) (e := 5) (cs := (([1] : List Int) ++ s1).flatMap (encI .u8)) (by kernel_rfl)) ?_
  refine PJ.wk (Wk.freeze 0 (n := s1.length) (k := 1) (e := 5) (cs := s1.flatMap (encI .u8)) (by kernel_rfl)) ?_
  exact kV [0] hFn hFH hFD (v1 := lsv (encI .u8) 1 (([1] : List Int) ++ s1))
def round_ways_3  : Option (Bool) :=
 (some false)
theorem round_ways_3_ok  {r : Bool} (h : round_ways_3 = some r) : SC Tryz.prog 115 [] [] (.bool r) [] := by
 refine kFn (fn := Tryz.f115) (fun F hFn hFH hFD => ?_)
 unfold round_ways_3 at h
 refine kSR ?_
 refine kC 1 [0] ?_
 refine kEN ?_
 refine kSR ?_
 refine kC 1 [0] ?_
 refine kEN ?_
 refine kX ?_
 obtain rfl := oi h
 exact kZ hFn hFH hFD
def round_ways_4_s0 (x0 : Bool) (x1 : Bool) (x2 : Int) : Option (Bool) :=
 (some (!x0))
theorem round_ways_4_s0_ok {x0 : Bool} {x1 : Bool} {x2 : Int} {r : Bool} (h : round_ways_4_s0 x0 x1 x2 = some r) : SC Tryz.prog 116 [.ptr 0 0] [.box [.bool x0, .bool x1, .int .i64 x2]] (.bool r) [.box [.bool x0, .bool x1, .int .i64 x2]] := by
 refine kFn (fn := Tryz.f116) (fun F hFn hFH hFD => ?_)
 unfold round_ways_4_s0 at h
 refine kSR ?_
 refine kC 1 [0,1] ?_
 refine kEN ?_
 refine kSR ?_
 refine kC 4 [1] ?_
 refine kEN ?_
 refine kX ?_
 obtain rfl := oi h
 exact kV [0] hFn hFH hFD (v1 := .bool (!x0))
def round_ways_5_s0 (x0 : Bool) (x1 : Bool) (x2 : Int) : Option (Bool) :=
 (some x0)
theorem round_ways_5_s0_ok {x0 : Bool} {x1 : Bool} {x2 : Int} {r : Bool} (h : round_ways_5_s0 x0 x1 x2 = some r) : SC Tryz.prog 117 [.ptr 0 0] [.box [.bool x0, .bool x1, .int .i64 x2]] (.bool r) [.box [.bool x0, .bool x1, .int .i64 x2]] := by
 refine kFn (fn := Tryz.f117) (fun F hFn hFH hFD => ?_)
 unfold round_ways_5_s0 at h
 refine kSR ?_
 refine kC 1 [0,1] ?_
 refine kEN ?_
 refine kSR ?_
 refine kC 3 [1] ?_
 refine kEN ?_
 refine kX ?_
 obtain rfl := oi h
 exact kV [0] hFn hFH hFD (v1 := .bool x0)
def round_ways_1_s0 (x0 : Bool) (x1 : Bool) (x2 : Bool) (x3 : Int) : Option (Bool) :=
 (Option.bind (bif (decide (x3 > 0)) then (some true) else (bif (decide (x3 = 0)) then (some x0) else (some false))) fun (s0 : Bool) => (some s0))
theorem round_ways_1_s0_ok {x0 : Bool} {x1 : Bool} {x2 : Bool} {x3 : Int} {r : Bool} (h : round_ways_1_s0 x0 x1 x2 x3 = some r) : SC Tryz.prog 113 [.bool x0, .ptr 0 0] [.box [.bool x1, .bool x2, .int .i64 x3]] (.bool r) [.box [.bool x1, .bool x2, .int .i64 x3]] := by
 refine kFn (fn := Tryz.f113) (fun F hFn hFH hFD => ?_)
 unfold round_ways_1_s0 at h
 refine kSR ?_
 refine kC 1 [0,1,3] ?_
 refine kEN ?_
 obtain ⟨s0, hy0, h0⟩ := bindS h
 refine K.cutN (by kernel_rfl) (fun (s0 : Bool) => ([(3, .bool s0)], [.box [.bool x1, .bool x2, .int .i64 x3]])) s0 ?_ ?_
 ·refine kR ?_
  refine kC 4 [0,1,3,7] ?_
  refine kB 7 hy0 (fun h1 => ?_) (fun h2 => ?_)
  ·refine kC 8 [3] ?_
   refine kE ?_
   obtain rfl := oi h1
   exact kN [3]
  ·refine kC 4 [0,3,7,11] ?_
   refine kB 11 h2 (fun h3 => ?_) (fun h4 => ?_)
   ·refine kC 4 [3] ?_
    refine kE ?_
    obtain rfl := oi h3
    exact kN [3]
   ·refine kC 4 [3] ?_
    refine kE ?_
    obtain rfl := oi h4
    exact kN [3]
 ·refine kX ?_
  obtain rfl := oi h0
  exact kV [0] hFn hFH hFD (v1 := .bool s0)
def round_ways_6_s0 (x0 : Bool) (x1 : Bool) (x2 : Int) : Option (Bool) :=
 (Option.bind (round_ways_1_s0 true x0 x1 x2) fun y0 => (some y0))
theorem round_ways_6_s0_ok {x0 : Bool} {x1 : Bool} {x2 : Int} {r : Bool} (h : round_ways_6_s0 x0 x1 x2 = some r) : SC Tryz.prog 118 [.ptr 0 0] [.box [.fn (.func 113) [] [.ptr 1 0]], .box [.bool x0, .bool x1, .int .i64 x2]] (.bool r) [.box [.fn (.func 113) [] [.ptr 1 0]], .box [.bool x0, .bool x1, .int .i64 x2]] := by
 refine kFn (fn := Tryz.f118) (fun F hFn hFH hFD => ?_)
 unfold round_ways_6_s0 at h
 refine kSR ?_
 refine kC 1 [0,1] ?_
 refine kEN ?_
 refine kSR ?_
 refine kC 1 [1,2] ?_
 obtain ⟨y0, hy0, h0⟩ := bindS h
 refine kCG (some 3) (args := [.bool true, .ptr 1 0]) (v := .bool y0) (H2 := [.box [.fn (.func 113) [] [.ptr 1 0]], .box [.bool x0, .bool x1, .int .i64 x2]]) [1] (round_ways_1_s0_ok hy0) ?_
 refine kC 1 [1] ?_
 refine kEN ?_
 refine kX ?_
 obtain rfl := oi h0
 exact kV [0, 1] hFn hFH hFD (v1 := .bool y0)
def round_ways_7_s0 (x0 : Bool) (x1 : Bool) (x2 : Int) : Option (Bool) :=
 (Option.bind (round_ways_1_s0 false x0 x1 x2) fun y0 => (some y0))
theorem round_ways_7_s0_ok {x0 : Bool} {x1 : Bool} {x2 : Int} {r : Bool} (h : round_ways_7_s0 x0 x1 x2 = some r) : SC Tryz.prog 119 [.ptr 0 0] [.box [.fn (.func 113) [] [.ptr 1 0]], .box [.bool x0, .bool x1, .int .i64 x2]] (.bool r) [.box [.fn (.func 113) [] [.ptr 1 0]], .box [.bool x0, .bool x1, .int .i64 x2]] := by
 refine kFn (fn := Tryz.f119) (fun F hFn hFH hFD => ?_)
 unfold round_ways_7_s0 at h
 refine kSR ?_
 refine kC 1 [0,1] ?_
 refine kEN ?_
 refine kSR ?_
 refine kC 1 [1,2] ?_
 obtain ⟨y0, hy0, h0⟩ := bindS h
 refine kCG (some 3) (args := [.bool false, .ptr 1 0]) (v := .bool y0) (H2 := [.box [.fn (.func 113) [] [.ptr 1 0]], .box [.bool x0, .bool x1, .int .i64 x2]]) [1] (round_ways_1_s0_ok hy0) ?_
 refine kC 1 [1] ?_
 refine kEN ?_
 refine kX ?_
 obtain rfl := oi h0
 exact kV [0, 1] hFn hFH hFD (v1 := .bool y0)
def round_ways_8_s0 (x0 : Bool) (x1 : Bool) (x2 : Int) : Option (Bool) :=
 (Option.bind (round_ways_1_s0 x1 x0 x1 x2) fun y0 => (some y0))
theorem round_ways_8_s0_ok {x0 : Bool} {x1 : Bool} {x2 : Int} {r : Bool} (h : round_ways_8_s0 x0 x1 x2 = some r) : SC Tryz.prog 120 [.ptr 0 0, .ptr 1 0] [.box [.fn (.func 113) [] [.ptr 1 0]], .box [.bool x0, .bool x1, .int .i64 x2]] (.bool r) [.box [.fn (.func 113) [] [.ptr 1 0]], .box [.bool x0, .bool x1, .int .i64 x2]] := by
 refine kFn (fn := Tryz.f120) (fun F hFn hFH hFD => ?_)
 unfold round_ways_8_s0 at h
 refine kSR ?_
 refine kC 1 [0,1,2] ?_
 refine kEN ?_
 refine kSR ?_
 refine kC 3 [2,3,5] ?_
 obtain ⟨y0, hy0, h0⟩ := bindS h
 refine kCG (some 6) (args := [.bool x1, .ptr 1 0]) (v := .bool y0) (H2 := [.box [.fn (.func 113) [] [.ptr 1 0]], .box [.bool x0, .bool x1, .int .i64 x2]]) [1] (round_ways_1_s0_ok hy0) ?_
 refine kC 1 [2] ?_
 refine kEN ?_
 refine kX ?_
 obtain rfl := oi h0
 exact kV [0, 1] hFn hFH hFD (v1 := .bool y0)
def round_ways_9_s0 (x0 : Bool) (x1 : Bool) (x2 : Int) : Option (Bool) :=
 (Option.bind (round_ways_1_s0 (!x1) x0 x1 x2) fun y0 => (some y0))
theorem round_ways_9_s0_ok {x0 : Bool} {x1 : Bool} {x2 : Int} {r : Bool} (h : round_ways_9_s0 x0 x1 x2 = some r) : SC Tryz.prog 121 [.ptr 0 0, .ptr 1 0] [.box [.fn (.func 113) [] [.ptr 1 0]], .box [.bool x0, .bool x1, .int .i64 x2]] (.bool r) [.box [.fn (.func 113) [] [.ptr 1 0]], .box [.bool x0, .bool x1, .int .i64 x2]] := by
 refine kFn (fn := Tryz.f121) (fun F hFn hFH hFD => ?_)
 unfold round_ways_9_s0 at h
 refine kSR ?_
 refine kC 1 [0,1,2] ?_
 refine kEN ?_
 refine kSR ?_
 refine kC 4 [2,3,6] ?_
 obtain ⟨y0, hy0, h0⟩ := bindS h
 refine kCG (some 7) (args := [.bool (!x1), .ptr 1 0]) (v := .bool y0) (H2 := [.box [.fn (.func 113) [] [.ptr 1 0]], .box [.bool x0, .bool x1, .int .i64 x2]]) [1] (round_ways_1_s0_ok hy0) ?_
 refine kC 1 [2] ?_
 refine kEN ?_
 refine kX ?_
 obtain rfl := oi h0
 exact kV [0, 1] hFn hFH hFD (v1 := .bool y0)
def slices_Reverse_s0 (x0 : List Int) : Option ((List Int)) :=
 (loopN (fun (s0 : Int × Int × (List Int)) => (bif (decide (s0.1 < s0.2.1)) then (bif inR s0.2.1 s0.2.2.length then (bif inR s0.2.1 s0.2.2.length then (bif inR s0.1 s0.2.2.length then (bif inR s0.1 s0.2.2.length then (bif inR s0.1 s0.2.2.length then (bif inR s0.1 s0.2.2.length then (bif inR s0.2.1 (setAt s0.2.2 s0.1 (nth s0.2.2 s0.2.1)).length then (bif inR s0.2.1 (setAt s0.2.2 s0.1 (nth s0.2.2 s0.2.1)).length then (some (.inl ((IntKind.wrap .i64 (s0.1 + 1)), (IntKind.wrap .i64 (s0.2.1 - 1)), (setAt (setAt s0.2.2 s0.1 (nth s0.2.2 s0.2.1)) s0.2.1 (nth s0.2.2 s0.1))))) else none) else none) else none) else none) else none) else none) else none) else none) else (some (.inr s0.2.2)))) big (0, (IntKind.wrap .i64 ((x0.length : Int) - 1)), x0))
theorem slices_Reverse_s0_ok {x0 : List Int} {r : (List Int)} (h : slices_Reverse_s0 x0 = some r) : SC Tryz.prog 122 [.vc 0] [vecL (encI .u8) 1 5 x0] (.tup []) [vecL (encI .u8) 1 5 r] := by
 refine kFn (fn := Tryz.f122) (fun F hFn hFH hFD => ?_)
 unfold slices_Reverse_s0 at h
 refine kSR ?_
 refine kC 5 [0,2,3] ?_
 refine kEN ?_
 refine kb 0 ?_
 refine kl (fun (s0 : Int × Int × (List Int)) => ([(0, .vc 0), (2, .int .i64 s0.1), (3, .int .i64 s0.2.1)], [vecL (encI .u8) 1 5 s0.2.2])) h [0, 2, 3] (fun s0 x29 hs0 => ?_)
 refine kS ?_
 refine kSR ?_
 refine kC 3 [0,2,3,9] ?_
 refine kEN ?_
 refine kBJ 9 hs0 (fun h0 => ?_) (fun h1 => ?_)
 ·refine kT ?_
  refine kK ?_
  refine PJ.next ?_
  refine kS ?_
  refine kb 1 ?_
  refine J.keep [0, 2, 3] (L2 := [(0, .vc 0), (2, .int .i64 s0.1), (3, .int .i64 s0.2.1)]) (by kernel_rfl) ?_
  refine K.draw (by kernel_rfl) (by kernel_rfl) (by kernel_rfl) (H2 := [vecL (encI .u8) 1 5 s0.2.2]) (by kernel_rfl) (n := 1) (by kernel_rfl) ?_
  refine kD 6 ?_
  obtain ⟨hm, h2⟩ := asrt h0
  refine kQ 20 (.ptr 0 ((s0.2.1 : Int).toNat * 1)) [0] (tr2 := [([], []), ([], []), ([], []), ([], []), ([], []), ([], []), ([1], [])]) hm ?_
  obtain ⟨hm, h3⟩ := asrt h2
  refine RJ.rel (d := (some 21)) (ef := ⟨(((s0.2.2).flatMap (encI .u8)).drop ((s0.2.1 : Int).toNat * 1)).headD .undef, [0], []⟩) (ef' := ⟨.int .u8 (nth s0.2.2 s0.2.1), [0], []⟩) (c := Nat.blt ((s0.2.1 : Int).toNat * 1) (s0.2.2.flatMap (encI .u8)).length) (tr2 := [([], []), ([], []), ([], []), ([], []), ([], []), ([], []), ([1], []), ([0, 1], [])]) (H2 := [vecL (encI .u8) 1 5 s0.2.2]) (by kernel_rfl) (loadv_ok (encI_len .u8) rfl hm) (fun hc => N.load1 (encI_len .u8) (fun _ => rfl) hm) (by kernel_rfl) ?_
  refine kD 2 ?_
  obtain ⟨hm, h4⟩ := asrt h3
  refine kQ 24 (.ptr 0 ((s0.1 : Int).toNat * 1)) [0] (tr2 := [([], []), ([], []), ([], []), ([], []), ([], []), ([], []), ([1], []), ([0, 1], []), ([], []), ([], []), ([1], [])]) hm ?_
  obtain ⟨hm, h5⟩ := asrt h4
  refine RJ.rel (d := (some 25)) (ef := ⟨(((s0.2.2).flatMap (encI .u8)).drop ((s0.1 : Int).toNat * 1)).headD .undef, [0], []⟩) (ef' := ⟨.int .u8 (nth s0.2.2 s0.1), [0], []⟩) (c := Nat.blt ((s0.1 : Int).toNat * 1) (s0.2.2.flatMap (encI .u8)).length) (tr2 := [([], []), ([], []), ([], []), ([], []), ([], []), ([], []), ([1], []), ([0, 1], []), ([], []), ([], []), ([1], []), ([0, 1], [])]) (H2 := [vecL (encI .u8) 1 5 s0.2.2]) (by kernel_rfl) (loadv_ok (encI_len .u8) rfl hm) (fun hc => N.load1 (encI_len .u8) (fun _ => rfl) hm) (by kernel_rfl) ?_
  obtain ⟨hm, h6⟩ := asrt h5
  refine kQ 26 (.ptr 0 ((s0.1 : Int).toNat * 1)) [0] (tr2 := [([], []), ([], []), ([], []), ([], []), ([], []), ([], []), ([1], []), ([0, 1], []), ([], []), ([], []), ([1], []), ([0, 1], []), ([1], [])]) hm ?_
  obtain ⟨hm, h7⟩ := asrt h6
  refine RJ.rel (d := none) (ef := ⟨.undef, [0], [(0, .vec (s0.2.2).length 1 5 (splice ((s0.2.2).flatMap (encI .u8)) ((s0.1 : Int).toNat * 1) ((encI .u8) (nth s0.2.2 s0.2.1))))]⟩) (ef' := ⟨.undef, [0], [(0, vecL (encI .u8) 1 5 (setAt s0.2.2 s0.1 (nth s0.2.2 s0.2.1)))]⟩) (c := Nat.ble (((s0.1 : Int).toNat * 1) + ((encI .u8) (nth s0.2.2 s0.2.1)).length) (s0.2.2.flatMap (encI .u8)).length) (tr2 := [([], []), ([], []), ([], []), ([], []), ([], []), ([], []), ([1], []), ([0, 1], []), ([], []), ([], []), ([1], []), ([0, 1], []), ([1], []), ([0, 1], [0])]) (H2 := [vecL (encI .u8) 1 5 (setAt s0.2.2 s0.1 (nth s0.2.2 s0.2.1))]) (by kernel_rfl) (storev_ok (encI_len .u8) hm) (fun hc => N.store (encI_len .u8) hm) (by kernel_rfl) ?_
  obtain ⟨hm, h8⟩ := asrt h7
  refine kQ 27 (.ptr 0 ((s0.2.1 : Int).toNat * 1)) [0] (tr2 := [([], []), ([], []), ([], []), ([], []), ([], []), ([], []), ([1], []), ([0, 1], []), ([], []), ([], []), ([1], []), ([0, 1], []), ([1], []), ([0, 1], [0]), ([1], [])]) hm ?_
  obtain ⟨hm, h9⟩ := asrt h8
  refine RJ.rel (d := none) (ef := ⟨.undef, [0], [(0, .vec ((setAt s0.2.2 s0.1 (nth s0.2.2 s0.2.1))).length 1 5 (splice (((setAt s0.2.2 s0.1 (nth s0.2.2 s0.2.1))).flatMap (encI .u8)) ((s0.2.1 : Int).toNat * 1) ((encI .u8) (nth s0.2.2 s0.1))))]⟩) (ef' := ⟨.undef, [0], [(0, vecL (encI .u8) 1 5 (setAt (setAt s0.2.2 s0.1 (nth s0.2.2 s0.2.1)) s0.2.1 (nth s0.2.2 s0.1)))]⟩) (c := Nat.ble (((s0.2.1 : Int).toNat * 1) + ((encI .u8) (nth s0.2.2 s0.1)).length) ((setAt s0.2.2 s0.1 (nth s0.2.2 s0.2.1)).flatMap (encI .u8)).length) (tr2 := [([], []), ([], []), ([], []), ([], []), ([], []), ([], []), ([1], []), ([0, 1], []), ([], []), ([], []), ([1], []), ([0, 1], []), ([1], []), ([0, 1], [0]), ([1], []), ([0, 1], [0])]) (H2 := [vecL (encI .u8) 1 5 ((setAt (setAt s0.2.2 s0.1 (nth s0.2.2 s0.2.1)) s0.2.1 (nth s0.2.2 s0.1)))]) (by kernel_rfl) (storev_ok (encI_len .u8) hm) (fun hc => N.store (encI_len .u8) hm) (by kernel_rfl) ?_
  refine kE ?_
  refine PJ.blockNormal ?_
  refine PJ.next ?_
  refine kR ?_
  refine kC 6 [0,2,3] ?_
  refine kE ?_
  obtain rfl := oi h9
  exact kLN [0, 2, 3]
 ·refine kF ?_
  refine K.exit 0 (by kernel_rfl) ?_
  refine PJ.passExit ?_
  obtain rfl := oi h1
  refine PJ.loopOut (fun e => nomatch e) (fun he0 => ?_)
  have h10 := congrArg some he0
  refine PJ.blockOut ?_
  obtain rfl := oi h10
  exact K.retV (H0 := [vecL (encI .u8) 1 5 x0]) [0] (.inl rfl) hFn hFH hFD (by kernel_rfl) (v1 := .tup []) (by kernel_rfl) (by kernel_rfl) (by kernel_rfl) (by decide) (by kernel_rfl) (by kernel_rfl) (by kernel_rfl) (by kernel_rfl) (by kernel_rfl)
def round_times (x0 : List Int) (x1 : Int) : Option (List Int) :=
 (Option.bind (loopN (fun (s0 : Int × Int × (List Int)) => (bif (decide (s0.2.1 ≥ 0)) then (bif inR s0.2.1 x0.length then (bif room (s0.2.2.length + (([(IntKind.wrap .u8 ((Int.tmod ((IntKind.wrap .i64 (s0.1 + ((IntKind.wrap .i64 ((IntKind.wrap .i64 (nth x0 s0.2.1)) * x1)))))) 10)))] : List Int)).length) then (some (.inl ((IntKind.wrap .i64 (Int.tdiv ((IntKind.wrap .i64 (s0.1 + ((IntKind.wrap .i64 ((IntKind.wrap .i64 (nth x0 s0.2.1)) * x1)))))) 10)), (IntKind.wrap .i64 (s0.2.1 - 1)), (s0.2.2 ++ (([(IntKind.wrap .u8 ((Int.tmod ((IntKind.wrap .i64 (s0.1 + ((IntKind.wrap .i64 ((IntKind.wrap .i64 (nth x0 s0.2.1)) * x1)))))) 10)))] : List Int)))))) else none) else none) else (some (.inr (s0.1, s0.2.2))))) big (0, (IntKind.wrap .i64 ((x0.length : Int) - 1)), ([] : List Int))) fun (s2 : Int × (List Int)) => (Option.bind (loopN (fun (s1 : Int × (List Int)) => (bif (decide (s1.1 > 0)) then (bif room (s1.2.length + (([(IntKind.wrap .u8 (Int.tmod s1.1 10))] : List Int)).length) then (some (.inl ((IntKind.wrap .i64 (Int.tdiv s1.1 10)), (s1.2 ++ (([(IntKind.wrap .u8 (Int.tmod s1.1 10))] : List Int)))))) else none) else (some (.inr s1.2)))) big (s2.1, s2.2)) fun (s3 : (List Int)) => (Option.bind (slices_Reverse_s0 s3) fun y0 => (some y0))))
theorem round_times_ok {x0 : List Int} {x1 : Int} {r : List Int} (h : round_times x0 x1 = some r) : SC Tryz.prog 95 [lsv (encI .u8) 1 x0, .int .i64 x1] [] (lsv (encI .u8) 1 r) [] := by
 refine kFn (fn := Tryz.f95) (fun F hFn hFH hFD => ?_)
 unfold round_times at h
 refine kSR ?_
 refine kC 1 [0,1,4] ?_
 refine kEN ?_
 refine kSR ?_
 refine kC 1 [0,1,4,5] ?_
 refine kEN ?_
 refine kSR ?_
 refine kC 1 [0,1,4,5,6] ?_
 refine kEN ?_
 obtain ⟨s2, hy0, h0⟩ := bindS h
 refine K.cutN (by kernel_rfl) (fun (s2 : Int × (List Int)) => ([(4, .nl), (5, .vc 0), (6, .int .i64 s2.1)], [vecL (encI .u8) 1 5 s2.2])) s2 ?_ ?_
 ·refine kSR ?_
  refine kC 4 [0,1,4,5,6,7] ?_
  refine kEN ?_
  refine kb 0 ?_
  refine J.wk (Wk.viv 5 1 5 (by kernel_rfl)) ?_
  refine kl (fun (s0 : Int × Int × (List Int)) => ([(0, lsv (encI .u8) 1 x0), (1, .int .i64 x1), (4, .nl), (5, .vc 0), (6, .int .i64 s0.1), (7, .int .i64 s0.2.1)], [vecL (encI .u8) 1 5 s0.2.2])) hy0 [0, 1, 4, 5, 6, 7] (fun s0 x46 hs0 => ?_)
  refine kS ?_
  refine kSR ?_
  refine kC 2 [0,1,4,5,6,7,12] ?_
  refine kEN ?_
  refine kBJ 12 hs0 (fun h1 => ?_) (fun h2 => ?_)
  ·refine kT ?_
   refine kK ?_
   refine PJ.next ?_
   refine kS ?_
   refine kb 1 ?_
   refine kSR ?_
   refine kC 3 [0,1,4,5,6,7,15,16,17] ?_
   obtain ⟨hm, h3⟩ := asrt h1
   refine kI 18 (encI_len .u8) hm ?_
   refine kC 6 [0,1,4,5,6,7] ?_
   refine kEN ?_
   refine kSR ?_
   refine kC 5 [0,1,4,5,6,7,24,28] ?_
   obtain ⟨hm, h4⟩ := asrt h3
   refine RJ.rel (d := (some 29)) (ef := ⟨.vc 2, [0, 1], [(0, .gone), (2, .vec (s0.2.2.length + (([(IntKind.wrap .u8 ((Int.tmod ((IntKind.wrap .i64 (s0.1 + ((IntKind.wrap .i64 ((IntKind.wrap .i64 (nth x0 s0.2.1)) * x1)))))) 10)))] : List Int)).length) 1 5 (s0.2.2.flatMap (encI .u8) ++ (([(IntKind.wrap .u8 ((Int.tmod ((IntKind.wrap .i64 (s0.1 + ((IntKind.wrap .i64 ((IntKind.wrap .i64 (nth x0 s0.2.1)) * x1)))))) 10)))] : List Int)).flatMap (encI .u8)))]⟩) (ef' := ⟨.vc 2, [0, 1], [(0, .gone), (2, vecL (encI .u8) 1 5 (s0.2.2 ++ (([(IntKind.wrap .u8 ((Int.tmod ((IntKind.wrap .i64 (s0.1 + ((IntKind.wrap .i64 ((IntKind.wrap .i64 (nth x0 s0.2.1)) * x1)))))) 10)))] : List Int))))]⟩) (c := roomB (s0.2.2.length + (([(IntKind.wrap .u8 ((Int.tmod ((IntKind.wrap .i64 (s0.1 + ((IntKind.wrap .i64 ((IntKind.wrap .i64 (nth x0 s0.2.1)) * x1)))))) 10)))] : List Int)).length)) (tr2 := []) (H2 := [.gone, vecL (encI .u8) 1 5 (([(IntKind.wrap .u8 ((Int.tmod ((IntKind.wrap .i64 (s0.1 + ((IntKind.wrap .i64 ((IntKind.wrap .i64 (nth x0 s0.2.1)) * x1)))))) 10)))] : List Int)), vecL (encI .u8) 1 5 ((s0.2.2 ++ (([(IntKind.wrap .u8 ((Int.tmod ((IntKind.wrap .i64 (s0.1 + ((IntKind.wrap .i64 ((IntKind.wrap .i64 (nth x0 s0.2.1)) * x1)))))) 10)))] : List Int))))]) (by kernel_rfl) (roomB_of_room hm) (fun hc => N.app) (by kernel_rfl) ?_
   refine kC 1 [0,1,4,5,6,7] ?_
   refine kEN ?_
   refine kR ?_
   refine kC 3 [0,1,4,5,6,7] ?_
   refine kE ?_
   refine PJ.blockNormal ?_
   refine PJ.next ?_
   refine kR ?_
   refine kC 3 [0,1,4,5,6,7] ?_
   refine kE ?_
   obtain rfl := oi h4
   refine kW (L2 := [(0, lsv (encI .u8) 1 x0), (1, .int .i64 x1), (4, .nl), (5, .vc 0), (6, .int .i64 ((IntKind.wrap .i64 (Int.tdiv ((IntKind.wrap .i64 (s0.1 + ((IntKind.wrap .i64 ((IntKind.wrap .i64 (nth x0 s0.2.1)) * x1)))))) 10)))), (7, .int .i64 (IntKind.wrap .i64 (s0.2.1 - 1)))]) (H2 := [vecL (encI .u8) 1 5 ((s0.2.2 ++ (([(IntKind.wrap .u8 ((Int.tmod ((IntKind.wrap .i64 (s0.1 + ((IntKind.wrap .i64 ((IntKind.wrap .i64 (nth x0 s0.2.1)) * x1)))))) 10)))] : List Int))))]) hFH hFD [2] ?_
   exact kLN [0, 1, 4, 5, 6, 7]
  ·refine kF ?_
   refine K.exit 0 (by kernel_rfl) ?_
   refine PJ.passExit ?_
   obtain rfl := oi h2
   refine PJ.loopOut (fun e => nomatch e) (fun he0 => ?_)
   have h5 := congrArg some he0
   refine PJ.blockOut ?_
   obtain rfl := oi h5
   exact kN [4, 5, 6]
 ·obtain ⟨s3, hy1, h6⟩ := bindS h0
  refine K.cutN (by kernel_rfl) (fun (s3 : (List Int)) => ([(4, .nl), (5, .vc 0)], [vecL (encI .u8) 1 5 s3])) s3 ?_ ?_
  ·refine kb 2 ?_
   refine kl (fun (s1 : Int × (List Int)) => ([(4, .nl), (5, .vc 0), (6, .int .i64 s1.1)], [vecL (encI .u8) 1 5 s1.2])) hy1 [4, 5, 6] (fun s1 x94 hs1 => ?_)
   refine kS ?_
   refine kSR ?_
   refine kC 2 [4,5,6,33] ?_
   refine kEN ?_
   refine kBJ 33 hs1 (fun h7 => ?_) (fun h8 => ?_)
   ·refine kT ?_
    refine kK ?_
    refine PJ.next ?_
    refine kS ?_
    refine kb 3 ?_
    refine kR ?_
    refine kC 5 [4,5,6,36,40] ?_
    obtain ⟨hm, h9⟩ := asrt h7
    refine RJ.rel (d := (some 41)) (ef := ⟨.vc 2, [0, 1], [(0, .gone), (2, .vec (s1.2.length + (([(IntKind.wrap .u8 (Int.tmod s1.1 10))] : List Int)).length) 1 5 (s1.2.flatMap (encI .u8) ++ (([(IntKind.wrap .u8 (Int.tmod s1.1 10))] : List Int)).flatMap (encI .u8)))]⟩) (ef' := ⟨.vc 2, [0, 1], [(0, .gone), (2, vecL (encI .u8) 1 5 (s1.2 ++ (([(IntKind.wrap .u8 (Int.tmod s1.1 10))] : List Int))))]⟩) (c := roomB (s1.2.length + (([(IntKind.wrap .u8 (Int.tmod s1.1 10))] : List Int)).length)) (tr2 := []) (H2 := [.gone, vecL (encI .u8) 1 5 (([(IntKind.wrap .u8 (Int.tmod s1.1 10))] : List Int)), vecL (encI .u8) 1 5 ((s1.2 ++ (([(IntKind.wrap .u8 (Int.tmod s1.1 10))] : List Int))))]) (by kernel_rfl) (roomB_of_room hm) (fun hc => N.app) (by kernel_rfl) ?_
    refine kC 1 [4,5,6] ?_
    refine kE ?_
    refine PJ.blockNormal ?_
    refine PJ.next ?_
    refine kR ?_
    refine kC 3 [4,5,6] ?_
    refine kE ?_
    obtain rfl := oi h9
    refine kW (L2 := [(4, .nl), (5, .vc 0), (6, .int .i64 (IntKind.wrap .i64 (Int.tdiv s1.1 10)))]) (H2 := [vecL (encI .u8) 1 5 ((s1.2 ++ (([(IntKind.wrap .u8 (Int.tmod s1.1 10))] : List Int))))]) hFH hFD [2] ?_
    exact kLN [4, 5, 6]
   ·refine kF ?_
    refine K.exit 2 (by kernel_rfl) ?_
    refine PJ.passExit ?_
    obtain rfl := oi h8
    refine PJ.loopOut (fun e => nomatch e) (fun he1 => ?_)
    have h10 := congrArg some he1
    refine PJ.blockOut ?_
    obtain rfl := oi h10
    exact kN [4, 5]
  ·refine kSR ?_
   refine kC 1 [4,5,42] ?_
   obtain ⟨y0, hy2, h11⟩ := bindS h6
   refine kCG (some 43) (args := [.vc 0]) (v := .tup []) (H2 := [vecL (encI .u8) 1 5 y0]) [0] (slices_Reverse_s0_ok hy2) ?_
   refine kEN ?_
   refine kSR ?_
   refine kC 2 [4] ?_
   refine kEN ?_
   refine kX ?_
   obtain rfl := oi h11
   refine PJ.wk (Wk.freeze 0 (n := y0.length) (k := 1) (e := 5) (cs := y0.flatMap (encI .u8)) (by kernel_rfl)) ?_
   exact kZ hFn hFH hFD
def round_Inc (x0 : St28) (x1 : Int) (x2 : Int) (x3 : Int) : Option (St28 × Int) :=
 (Option.bind (Option.bind (Option.bind (round_Is x3) fun y19 => (bif (!y19) then (some true) else (Option.bind (round_unit x1 x2) fun y20 => (bif (!y20) then (some true) else (Option.bind (dec_Right x0) fun y21 => (some (!y21))))))) fun (s2 : Bool) => (bif s2 then (some (.inr ((⟨false, ([] : List Int), 0⟩ : St28), 1))) else (some (.inl ())))) (joinX fun (s4 : Unit) => (Option.bind (round_split x0 x1 x2) fun y1 => (Option.bind (Option.bind (bif (decide (y1.2 = 0)) then (Option.bind (round_below x0 x2) fun y22 => (some (!y22))) else (some false)) fun (s3 : Bool) => (bif s3 then (Option.bind (dec_Norm x0.Neg_ x0.D_ x0.E_) fun y12 => (some (.inr (y12.1, y12.2)))) else (some (.inl ())))) (joinX fun (s5 : Unit) => (Option.bind (bif (decide ((y1.1.length : Int) > 0)) then (bif inR ((IntKind.wrap .i64 ((y1.1.length : Int) - 1))) y1.1.length then (bif inR ((IntKind.wrap .i64 ((y1.1.length : Int) - 1))) y1.1.length then (some ((decide (((Int.tmod ((nth y1.1 ((IntKind.wrap .i64 ((y1.1.length : Int) - 1))))) 2)) = 1)))) else none) else none) else (some false)) fun (s0 : Bool) => (Option.bind (round_middle x0 y1.2 x1 x2) fun y0 => (Option.bind (Option.bind (round_ways_s0 (⟨x0.Neg_, s0, y0⟩ : St123)) fun y25 => (bif (decide (x3 = 0)) then (Option.bind round_ways_2 fun y23 => (bif y23 then (Option.bind (round_next y1.1) fun y3 => (some y3)) else (some y1.1))) else (bif (decide (x3 = 1)) then (Option.bind round_ways_3 fun y24 => (bif y24 then (Option.bind (round_next y1.1) fun y4 => (some y4)) else (some y1.1))) else (bif (decide (x3 = 2)) then (Option.bind (round_ways_4_s0 ((⟨x0.Neg_, s0, y0⟩ : St123).neg_) ((⟨x0.Neg_, s0, y0⟩ : St123).odd_) ((⟨x0.Neg_, s0, y0⟩ : St123).half_)) fun y13 => (bif y13 then (Option.bind (round_next y1.1) fun y5 => (some y5)) else (some y1.1))) else (bif (decide (x3 = 3)) then (Option.bind (round_ways_5_s0 ((⟨x0.Neg_, s0, y0⟩ : St123).neg_) ((⟨x0.Neg_, s0, y0⟩ : St123).odd_) ((⟨x0.Neg_, s0, y0⟩ : St123).half_)) fun y14 => (bif y14 then (Option.bind (round_next y1.1) fun y6 => (some y6)) else (some y1.1))) else (bif (decide (x3 = 4)) then (Option.bind (round_ways_6_s0 ((⟨x0.Neg_, s0, y0⟩ : St123).neg_) ((⟨x0.Neg_, s0, y0⟩ : St123).odd_) ((⟨x0.Neg_, s0, y0⟩ : St123).half_)) fun y15 => (bif y15 then (Option.bind (round_next y1.1) fun y7 => (some y7)) else (some y1.1))) else (bif (decide (x3 = 5)) then (Option.bind (round_ways_7_s0 ((⟨x0.Neg_, s0, y0⟩ : St123).neg_) ((⟨x0.Neg_, s0, y0⟩ : St123).odd_) ((⟨x0.Neg_, s0, y0⟩ : St123).half_)) fun y16 => (bif y16 then (Option.bind (round_next y1.1) fun y8 => (some y8)) else (some y1.1))) else (bif (decide (x3 = 6)) then (Option.bind (round_ways_8_s0 ((⟨x0.Neg_, s0, y0⟩ : St123).neg_) ((⟨x0.Neg_, s0, y0⟩ : St123).odd_) ((⟨x0.Neg_, s0, y0⟩ : St123).half_)) fun y17 => (bif y17 then (Option.bind (round_next y1.1) fun y9 => (some y9)) else (some y1.1))) else (bif (decide (x3 = 7)) then (Option.bind (round_ways_9_s0 ((⟨x0.Neg_, s0, y0⟩ : St123).neg_) ((⟨x0.Neg_, s0, y0⟩ : St123).odd_) ((⟨x0.Neg_, s0, y0⟩ : St123).half_)) fun y18 => (bif y18 then (Option.bind (round_next y1.1) fun y10 => (some y10)) else (some y1.1))) else none))))))))) fun (s1 : (List Int)) => (Option.bind (round_times s1 x1) fun y11 => (Option.bind (dec_Norm x0.Neg_ y11 x2) fun y2 => (some (y2.1, y2.2))))))))))))
theorem round_Inc_ok {x0 : St28} {x1 : Int} {x2 : Int} {x3 : Int} {r : St28 × Int} (h : round_Inc x0 x1 x2 x3 = some r) : SC Tryz.prog 66 [.agg (encSt28 x0), .int .i64 x1, .int .i64 x2, .int .i64 x3] [] (.tup [.agg (encSt28 r.1), .int .i64 r.2]) [] := by
 refine kFn (fn := Tryz.f66) (fun F hFn hFH hFD => ?_)
 unfold round_Inc at h
 refine kSR ?_
 refine kC 3 [1,2,3,4,8,9] ?_
 refine kEN ?_
 obtain ⟨y26, hy0, h0⟩ := bindS h
 refine K.cutX (by kernel_rfl) (fun (s4 : Unit) => ([(1, .int .i64 x1), (2, .int .i64 x2), (3, .int .i64 x3), (4, .ptr 0 0), (8, .ptr 1 0), (9, .int .i64 0)], [.box (encSt28 x0), .box [.bool false, .nl, .int .i64 0]])) y26 ?_ (fun s4 hs => ?_)
 ·obtain ⟨s2, hy1, h10⟩ := bindS hy0
  refine K.cutN (by kernel_rfl) (fun (s2 : Bool) => ([(1, .int .i64 x1), (2, .int .i64 x2), (3, .int .i64 x3), (4, .ptr 0 0), (8, .ptr 1 0), (9, .int .i64 0), (27, .bool s2)], [.box (encSt28 x0), .box [.bool false, .nl, .int .i64 0]])) s2 ?_ ?_
  ·refine kR ?_
   refine kC 1 [1,2,3,4,8,9,14] ?_
   obtain ⟨y19, hy2, h11⟩ := bindS hy1
   refine kA 15 (round_Is_ok hy2) ?_
   refine kC 2 [1,2,3,4,8,9,17] ?_
   refine kB 17 h11 (fun h12 => ?_) (fun h13 => ?_)
   ·refine kC 10 [1,2,3,4,8,9,27] ?_
    refine kE ?_
    obtain rfl := oi h12
    exact kN [1, 2, 3, 4, 8, 9, 27]
   ·refine kC 2 [1,2,3,4,8,9,17,18,19] ?_
    obtain ⟨y20, hy3, h14⟩ := bindS h13
    refine kA 20 (round_unit_ok hy3) ?_
    refine kC 3 [1,2,3,4,8,9,23] ?_
    refine kB 23 h14 (fun h15 => ?_) (fun h16 => ?_)
    ·refine kC 4 [1,2,3,4,8,9,27] ?_
     refine kE ?_
     obtain rfl := oi h15
     exact kN [1, 2, 3, 4, 8, 9, 27]
    ·refine kC 1 [1,2,3,4,8,9,23,24] ?_
     obtain ⟨y21, hy4, h17⟩ := bindS h16
     refine kA 25 (dec_Right_ok hy4) ?_
     refine kC 2 [1,2,3,4,8,9,27] ?_
     refine kE ?_
     obtain rfl := oi h17
     exact kN [1, 2, 3, 4, 8, 9, 27]
  ·refine kBJ 27 h10 (fun h18 => ?_) (fun h19 => ?_)
   ·refine kT ?_
    refine kSR ?_
    refine kC 3 [1,2,3,4,8,9] ?_
    refine kEN ?_
    refine kX ?_
    obtain rfl := oi h18
    have h20 := joinX_inr h0
    refine PJ.cutXr (fun e => nomatch e) ?_
    obtain rfl := oi h20
    refine PJ.res (v1 := .tup [.agg [.bool false, .nl, .int .i64 0], .int .i64 1]) (Le.tup (.cons (Le.agg (.cons (Le.refl _) (.cons (Le.nl _) (.cons (Le.refl _) .nil)))) (.cons (Le.refl _) .nil))) ?_
    exact kZ hFn hFH hFD
   ·refine kF ?_
    refine kK ?_
    obtain rfl := oi h19
    exact kXl [1, 2, 3, 4, 8, 9]
 ·subst hs
  have h21 := joinX_inl h0
  refine kSR ?_
  refine kC 3 [1,2,3,4,8,9,30,31,32] ?_
  obtain ⟨y1, hy5, h22⟩ := bindS h21
  refine kCG (some 33) (args := [.agg (encSt28 x0), .int .i64 x1, .int .i64 x2]) (v := .tup [.vc 2, .int .i64 y1.2]) (H2 := [.box (encSt28 x0), .box [.bool false, .nl, .int .i64 0], vecL (encI .u8) 1 5 y1.1]) [] (round_split_ok_o hy5) ?_
  refine kC 5 [1,2,3,4,8,9,10,11] ?_
  refine kEN ?_
  obtain ⟨y27, hy6, h1⟩ := bindS h22
  refine K.cutX (by kernel_rfl) (fun (s5 : Unit) => ([(1, .int .i64 x1), (2, .int .i64 x2), (3, .int .i64 x3), (4, .ptr 0 0), (8, .ptr 1 0), (9, .int .i64 0), (10, .vc 2), (11, .int .i64 y1.2)], [.box (encSt28 x0), .box [.bool false, .nl, .int .i64 0], vecL (encI .u8) 1 5 y1.1])) y27 ?_ (fun s5 hs => ?_)
  ·obtain ⟨s3, hy7, h23⟩ := bindS hy6
   refine K.cutN (by kernel_rfl) (fun (s3 : Bool) => ([(1, .int .i64 x1), (2, .int .i64 x2), (3, .int .i64 x3), (4, .ptr 0 0), (8, .ptr 1 0), (9, .int .i64 0), (10, .vc 2), (11, .int .i64 y1.2), (43, .bool s3)], [.box (encSt28 x0), .box [.bool false, .nl, .int .i64 0], vecL (encI .u8) 1 5 y1.1])) s3 ?_ ?_
   ·refine kR ?_
    refine kC 3 [1,2,3,4,8,9,10,11,38] ?_
    refine kB 38 hy7 (fun h24 => ?_) (fun h25 => ?_)
    ·refine kC 2 [1,2,3,4,8,9,10,11,38,39,40] ?_
     obtain ⟨y22, hy8, h26⟩ := bindS h24
     refine kA 41 (round_below_ok hy8) ?_
     refine kC 2 [1,2,3,4,8,9,10,11,43] ?_
     refine kE ?_
     obtain rfl := oi h26
     exact kN [1, 2, 3, 4, 8, 9, 10, 11, 43]
    ·refine kC 5 [1,2,3,4,8,9,10,11,43] ?_
     refine kE ?_
     obtain rfl := oi h25
     exact kN [1, 2, 3, 4, 8, 9, 10, 11, 43]
   ·refine kBJ 43 h23 (fun h27 => ?_) (fun h28 => ?_)
    ·refine kT ?_
     refine kSR ?_
     refine kC 6 [1,2,3,4,8,9,10,11,45,47,49] ?_
     obtain ⟨y12, hy9, h29⟩ := bindS h27
     refine kA 50 (dec_Norm_ok hy9) ?_
     refine kC 4 [1,2,3,4,8,9,10,11] ?_
     refine kEN ?_
     refine kX ?_
     obtain rfl := oi h29
     have h30 := joinX_inr h1
     refine PJ.cutXr (fun e => nomatch e) ?_
     obtain rfl := oi h30
     exact kZ hFn hFH hFD
    ·refine kF ?_
     refine kK ?_
     obtain rfl := oi h28
     exact kXl [1, 2, 3, 4, 8, 9, 10, 11]
  ·subst hs
   have h31 := joinX_inl h1
   obtain ⟨s0, hy10, h32⟩ := bindS h31
   refine K.cutN (by kernel_rfl) (fun (s0 : Bool) => ([(1, .int .i64 x1), (2, .int .i64 x2), (3, .int .i64 x3), (4, .ptr 0 0), (8, .ptr 1 0), (9, .int .i64 0), (10, .vc 2), (11, .int .i64 y1.2), (12, .bool s0)], [.box (encSt28 x0), .box [.bool false, .nl, .int .i64 0], vecL (encI .u8) 1 5 y1.1])) s0 ?_ ?_
   ·refine kR ?_
    refine kC 4 [1,2,3,4,8,9,10,11,56] ?_
    refine kB 56 hy10 (fun h33 => ?_) (fun h34 => ?_)
    ·refine kC 4 [1,2,3,4,8,9,10,11,56,57,60] ?_
     obtain ⟨hm, h35⟩ := asrt h33
     refine kQ 61 (.ptr 2 (((IntKind.wrap .i64 ((y1.1.length : Int) - 1)) : Int).toNat * 1)) [2] (tr2 := []) hm ?_
     obtain ⟨hm, h36⟩ := asrt h35
     refine RJ.rel (d := (some 62)) (ef := ⟨(((y1.1).flatMap (encI .u8)).drop (((IntKind.wrap .i64 ((y1.1.length : Int) - 1)) : Int).toNat * 1)).headD .undef, [2], []⟩) (ef' := ⟨.int .u8 ((nth y1.1 ((IntKind.wrap .i64 ((y1.1.length : Int) - 1))))), [2], []⟩) (c := Nat.blt (((IntKind.wrap .i64 ((y1.1.length : Int) - 1)) : Int).toNat * 1) (y1.1.flatMap (encI .u8)).length) (tr2 := []) (H2 := [.box (encSt28 x0), .box [.bool false, .nl, .int .i64 0], vecL (encI .u8) 1 5 y1.1]) (by kernel_rfl) (loadv_ok (encI_len .u8) rfl hm) (fun hc => N.load1 (encI_len .u8) (fun _ => rfl) hm) (by kernel_rfl) ?_
     refine kC 4 [1,2,3,4,8,9,10,11,12] ?_
     refine kE ?_
     obtain rfl := oi h36
     exact kN [1, 2, 3, 4, 8, 9, 10, 11, 12]
    ·refine kC 10 [1,2,3,4,8,9,10,11,12] ?_
     refine kE ?_
     obtain rfl := oi h34
     exact kN [1, 2, 3, 4, 8, 9, 10, 11, 12]
   ·refine kS ?_
    refine J.keep [1, 2, 3, 4, 8, 9, 10, 11, 12] (L2 := [(1, .int .i64 x1), (2, .int .i64 x2), (3, .int .i64 x3), (4, .ptr 0 0), (8, .ptr 1 0), (9, .int .i64 0), (10, .vc 2), (11, .int .i64 y1.2), (12, .bool s0)]) (by kernel_rfl) ?_
    refine K.draw (by kernel_rfl) (by kernel_rfl) (by kernel_rfl) (H2 := [.box (encSt28 x0), .box [.bool false, .nl, .int .i64 0], vecL (encI .u8) 1 5 y1.1, .res, .res]) (by kernel_rfl) (n := 3) (by kernel_rfl) ?_
    refine kD 7 ?_
    obtain ⟨y0, hy11, h37⟩ := bindS h32
    refine RJ.call0 (d := (some 73)) (f := 92) (args := [.agg (encSt28 x0), .int .i64 y1.2, .int .i64 x1, .int .i64 x2]) (v := .int .i64 y0) (tr2 := [([], []), ([0, 1], []), ([], []), ([0, 1], []), ([], []), ([], []), ([], []), ([], [6, 7])]) (by kernel_rfl) (by kernel_rfl) (.cons (Le.refl _) (.cons (Le.refl _) (.cons (Le.refl _) (.cons (Le.refl _) .nil)))) (round_middle_ok hy11) (by kernel_rfl) ?_
    refine kD 3 ?_
    refine kEN ?_
    obtain ⟨s1, hy12, h38⟩ := bindS h37
    refine K.cutN (by kernel_rfl) (fun (s1 : (List Int)) => ([(1, .int .i64 x1), (2, .int .i64 x2), (4, .ptr 0 0), (8, .ptr 1 0), (9, .int .i64 0), (10, lsv (encI .u8) 1 s1)], [.box (encSt28 x0), .box [.bool false, .nl, .int .i64 0]])) s1 ?_ ?_
    ·refine kSR ?_
     refine kC 1 [1,2,3,4,8,9,10,75] ?_
     obtain ⟨y25, hy13, h2⟩ := bindS hy12
     refine kCG (some 76) (args := [.agg [.bool x0.Neg_, .bool s0, .int .i64 y0]]) (v := .mp 5) (H2 := [.box (encSt28 x0), .box [.bool false, .nl, .int .i64 0], vecL (encI .u8) 1 5 y1.1, .res, .box [.bool x0.Neg_, .bool s0, .int .i64 y0], .map [(.int .i64 0, .fn (.func 114) [] []), (.int .i64 1, .fn (.func 115) [] []), (.int .i64 2, .fn (.func 116) [] [.ptr 6 0]), (.int .i64 3, .fn (.func 117) [] [.ptr 6 0]), (.int .i64 4, .fn (.func 118) [] [.ptr 7 0]), (.int .i64 5, .fn (.func 119) [] [.ptr 7 0]), (.int .i64 6, .fn (.func 120) [] [.ptr 7 0, .ptr 6 0]), (.int .i64 7, .fn (.func 121) [] [.ptr 7 0, .ptr 6 0])], .box [.bool ((⟨x0.Neg_, s0, y0⟩ : St123).neg_), .bool ((⟨x0.Neg_, s0, y0⟩ : St123).odd_), .int .i64 ((⟨x0.Neg_, s0, y0⟩ : St123).half_)], .box [.fn (.func 113) [] [.ptr 6 0]]]) [] (round_ways_s0_ok hy13) ?_
     refine kC 1 [1,2,4,8,9,10,76,77] ?_
     cases hb0 : (decide (x3 = 0))
     ·have h3 := condF hb0 h2
      have hn276 := of_decide_eq_false hb0
      cases hb1 : (decide (x3 = 1))
      ·have h4 := condF hb1 h3
       have hn289 := of_decide_eq_false hb1
       cases hb2 : (decide (x3 = 2))
       ·have h5 := condF hb2 h4
        have hn302 := of_decide_eq_false hb2
        cases hb3 : (decide (x3 = 3))
        ·have h6 := condF hb3 h5
         have hn315 := of_decide_eq_false hb3
         cases hb4 : (decide (x3 = 4))
         ·have h7 := condF hb4 h6
          have hn328 := of_decide_eq_false hb4
          cases hb5 : (decide (x3 = 5))
          ·have h8 := condF hb5 h7
           have hn341 := of_decide_eq_false hb5
           cases hb6 : (decide (x3 = 6))
           ·have h9 := condF hb6 h8
            have hn354 := of_decide_eq_false hb6
            cases hb7 : (decide (x3 = 7))
            ·have h39 := condF hb7 h9
             have hn367 := of_decide_eq_false hb7
             refine RJ.look (none) (d := some 78) (ef := ⟨.undef, [5], []⟩) (c := missC (.int .i64 x3) [(.int .i64 0, .fn (.func 114) [] []), (.int .i64 1, .fn (.func 115) [] []), (.int .i64 2, .fn (.func 116) [] [.ptr 6 0]), (.int .i64 3, .fn (.func 117) [] [.ptr 6 0]), (.int .i64 4, .fn (.func 118) [] [.ptr 7 0]), (.int .i64 5, .fn (.func 119) [] [.ptr 7 0]), (.int .i64 6, .fn (.func 120) [] [.ptr 7 0, .ptr 6 0]), (.int .i64 7, .fn (.func 121) [] [.ptr 7 0, .ptr 6 0])]) (tr2 := []) (by kernel_rfl) (by simp [hitC, missC, sameB, sameE, hn276, hn289, hn302, hn315, hn328, hn341, hn354, hn367]) ?_
             cases h39
            ·have h40 := condT hb7 h9
             have hn367 := of_decide_eq_true hb7
             refine RJ.look (some 7) (d := some 78) (ef := ⟨.fn (.func 121) [] [.ptr 7 0, .ptr 6 0], [5], []⟩) (c := hitC (.int .i64 x3) [(.int .i64 0, .fn (.func 114) [] []), (.int .i64 1, .fn (.func 115) [] []), (.int .i64 2, .fn (.func 116) [] [.ptr 6 0]), (.int .i64 3, .fn (.func 117) [] [.ptr 6 0]), (.int .i64 4, .fn (.func 118) [] [.ptr 7 0]), (.int .i64 5, .fn (.func 119) [] [.ptr 7 0]), (.int .i64 6, .fn (.func 120) [] [.ptr 7 0, .ptr 6 0]), (.int .i64 7, .fn (.func 121) [] [.ptr 7 0, .ptr 6 0])] 7) (tr2 := []) (by kernel_rfl) (by simp [hitC, missC, sameB, sameE, hn276, hn289, hn302, hn315, hn328, hn341, hn354, hn367]) ?_
             obtain ⟨y18, hy14, h41⟩ := bindS h40
             refine kCG (some 79) (args := [.ptr 7 0, .ptr 6 0]) (v := .bool y18) (H2 := [.box (encSt28 x0), .box [.bool false, .nl, .int .i64 0], vecL (encI .u8) 1 5 y1.1, .res, .box [.bool x0.Neg_, .bool s0, .int .i64 y0], .map [(.int .i64 0, .fn (.func 114) [] []), (.int .i64 1, .fn (.func 115) [] []), (.int .i64 2, .fn (.func 116) [] [.ptr 6 0]), (.int .i64 3, .fn (.func 117) [] [.ptr 6 0]), (.int .i64 4, .fn (.func 118) [] [.ptr 7 0]), (.int .i64 5, .fn (.func 119) [] [.ptr 7 0]), (.int .i64 6, .fn (.func 120) [] [.ptr 7 0, .ptr 6 0]), (.int .i64 7, .fn (.func 121) [] [.ptr 7 0, .ptr 6 0])], .box [.bool ((⟨x0.Neg_, s0, y0⟩ : St123).neg_), .bool ((⟨x0.Neg_, s0, y0⟩ : St123).odd_), .int .i64 ((⟨x0.Neg_, s0, y0⟩ : St123).half_)], .box [.fn (.func 113) [] [.ptr 6 0]]]) [7, 6] (round_ways_9_s0_ok hy14) ?_
             refine kEN ?_
             refine kBJ 79 h41 (fun h42 => ?_) (fun h43 => ?_)
             ·refine kT ?_
              refine kR ?_
              refine kC 1 [1,2,4,8,9,10,80] ?_
              obtain ⟨y10, hy15, h44⟩ := bindS h42
              refine kCG (some 81) (args := [.vc 2]) (v := lsv (encI .u8) 1 y10) (H2 := [.box (encSt28 x0), .box [.bool false, .nl, .int .i64 0], .gone, .res, .box [.bool x0.Neg_, .bool s0, .int .i64 y0], .map [(.int .i64 0, .fn (.func 114) [] []), (.int .i64 1, .fn (.func 115) [] []), (.int .i64 2, .fn (.func 116) [] [.ptr 6 0]), (.int .i64 3, .fn (.func 117) [] [.ptr 6 0]), (.int .i64 4, .fn (.func 118) [] [.ptr 7 0]), (.int .i64 5, .fn (.func 119) [] [.ptr 7 0]), (.int .i64 6, .fn (.func 120) [] [.ptr 7 0, .ptr 6 0]), (.int .i64 7, .fn (.func 121) [] [.ptr 7 0, .ptr 6 0])], .box [.bool ((⟨x0.Neg_, s0, y0⟩ : St123).neg_), .bool ((⟨x0.Neg_, s0, y0⟩ : St123).odd_), .int .i64 ((⟨x0.Neg_, s0, y0⟩ : St123).half_)], .box [.fn (.func 113) [] [.ptr 6 0]]]) [2] (round_next_ok_0 hy15) ?_
              refine kC 1 [1,2,4,8,9,10] ?_
              refine kE ?_
              obtain rfl := oi h44
              refine kW (L2 := [(1, .int .i64 x1), (2, .int .i64 x2), (4, .ptr 0 0), (8, .ptr 1 0), (9, .int .i64 0), (10, lsv (encI .u8) 1 y10)]) (H2 := [.box (encSt28 x0), .box [.bool false, .nl, .int .i64 0]]) hFH hFD [0, 1] ?_
              exact kN [1, 2, 4, 8, 9, 10]
             ·refine kF ?_
              refine kK ?_
              obtain rfl := oi h43
              refine PJ.wk (Wk.freeze 2 (n := y1.1.length) (k := 1) (e := 5) (cs := y1.1.flatMap (encI .u8)) (by kernel_rfl)) ?_
              refine kW (L2 := [(1, .int .i64 x1), (2, .int .i64 x2), (4, .ptr 0 0), (8, .ptr 1 0), (9, .int .i64 0), (10, lsv (encI .u8) 1 y1.1)]) (H2 := [.box (encSt28 x0), .box [.bool false, .nl, .int .i64 0]]) hFH hFD [0, 1] ?_
              exact kN [1, 2, 4, 8, 9, 10]
           ·have h45 := condT hb6 h8
            have hn354 := of_decide_eq_true hb6
            refine RJ.look (some 6) (d := some 78) (ef := ⟨.fn (.func 120) [] [.ptr 7 0, .ptr 6 0], [5], []⟩) (c := hitC (.int .i64 x3) [(.int .i64 0, .fn (.func 114) [] []), (.int .i64 1, .fn (.func 115) [] []), (.int .i64 2, .fn (.func 116) [] [.ptr 6 0]), (.int .i64 3, .fn (.func 117) [] [.ptr 6 0]), (.int .i64 4, .fn (.func 118) [] [.ptr 7 0]), (.int .i64 5, .fn (.func 119) [] [.ptr 7 0]), (.int .i64 6, .fn (.func 120) [] [.ptr 7 0, .ptr 6 0]), (.int .i64 7, .fn (.func 121) [] [.ptr 7 0, .ptr 6 0])] 6) (tr2 := []) (by kernel_rfl) (by simp [hitC, missC, sameB, sameE, hn276, hn289, hn302, hn315, hn328, hn341, hn354]) ?_
            obtain ⟨y17, hy16, h46⟩ := bindS h45
            refine kCG (some 79) (args := [.ptr 7 0, .ptr 6 0]) (v := .bool y17) (H2 := [.box (encSt28 x0), .box [.bool false, .nl, .int .i64 0], vecL (encI .u8) 1 5 y1.1, .res, .box [.bool x0.Neg_, .bool s0, .int .i64 y0], .map [(.int .i64 0, .fn (.func 114) [] []), (.int .i64 1, .fn (.func 115) [] []), (.int .i64 2, .fn (.func 116) [] [.ptr 6 0]), (.int .i64 3, .fn (.func 117) [] [.ptr 6 0]), (.int .i64 4, .fn (.func 118) [] [.ptr 7 0]), (.int .i64 5, .fn (.func 119) [] [.ptr 7 0]), (.int .i64 6, .fn (.func 120) [] [.ptr 7 0, .ptr 6 0]), (.int .i64 7, .fn (.func 121) [] [.ptr 7 0, .ptr 6 0])], .box [.bool ((⟨x0.Neg_, s0, y0⟩ : St123).neg_), .bool ((⟨x0.Neg_, s0, y0⟩ : St123).odd_), .int .i64 ((⟨x0.Neg_, s0, y0⟩ : St123).half_)], .box [.fn (.func 113) [] [.ptr 6 0]]]) [7, 6] (round_ways_8_s0_ok hy16) ?_
            refine kEN ?_
            refine kBJ 79 h46 (fun h47 => ?_) (fun h48 => ?_)
            ·refine kT ?_
             refine kR ?_
             refine kC 1 [1,2,4,8,9,10,80] ?_
             obtain ⟨y9, hy17, h49⟩ := bindS h47
             refine kCG (some 81) (args := [.vc 2]) (v := lsv (encI .u8) 1 y9) (H2 := [.box (encSt28 x0), .box [.bool false, .nl, .int .i64 0], .gone, .res, .box [.bool x0.Neg_, .bool s0, .int .i64 y0], .map [(.int .i64 0, .fn (.func 114) [] []), (.int .i64 1, .fn (.func 115) [] []), (.int .i64 2, .fn (.func 116) [] [.ptr 6 0]), (.int .i64 3, .fn (.func 117) [] [.ptr 6 0]), (.int .i64 4, .fn (.func 118) [] [.ptr 7 0]), (.int .i64 5, .fn (.func 119) [] [.ptr 7 0]), (.int .i64 6, .fn (.func 120) [] [.ptr 7 0, .ptr 6 0]), (.int .i64 7, .fn (.func 121) [] [.ptr 7 0, .ptr 6 0])], .box [.bool ((⟨x0.Neg_, s0, y0⟩ : St123).neg_), .bool ((⟨x0.Neg_, s0, y0⟩ : St123).odd_), .int .i64 ((⟨x0.Neg_, s0, y0⟩ : St123).half_)], .box [.fn (.func 113) [] [.ptr 6 0]]]) [2] (round_next_ok_0 hy17) ?_
             refine kC 1 [1,2,4,8,9,10] ?_
             refine kE ?_
             obtain rfl := oi h49
             refine kW (L2 := [(1, .int .i64 x1), (2, .int .i64 x2), (4, .ptr 0 0), (8, .ptr 1 0), (9, .int .i64 0), (10, lsv (encI .u8) 1 y9)]) (H2 := [.box (encSt28 x0), .box [.bool false, .nl, .int .i64 0]]) hFH hFD [0, 1] ?_
             exact kN [1, 2, 4, 8, 9, 10]
            ·refine kF ?_
             refine kK ?_
             obtain rfl := oi h48
             refine PJ.wk (Wk.freeze 2 (n := y1.1.length) (k := 1) (e := 5) (cs := y1.1.flatMap (encI .u8)) (by kernel_rfl)) ?_
             refine kW (L2 := [(1, .int .i64 x1), (2, .int .i64 x2), (4, .ptr 0 0), (8, .ptr 1 0), (9, .int .i64 0), (10, lsv (encI .u8) 1 y1.1)]) (H2 := [.box (encSt28 x0), .box [.bool false, .nl, .int .i64 0]]) hFH hFD [0, 1] ?_
             exact kN [1, 2, 4, 8, 9, 10]
          ·have h50 := condT hb5 h7
           have hn341 := of_decide_eq_true hb5
           refine RJ.look (some 5) (d := some 78) (ef := ⟨.fn (.func 119) [] [.ptr 7 0], [5], []⟩) (c := hitC (.int .i64 x3) [(.int .i64 0, .fn (.func 114) [] []), (.int .i64 1, .fn (.func 115) [] []), (.int .i64 2, .fn (.func 116) [] [.ptr 6 0]), (.int .i64 3, .fn (.func 117) [] [.ptr 6 0]), (.int .i64 4, .fn (.func 118) [] [.ptr 7 0]), (.int .i64 5, .fn (.func 119) [] [.ptr 7 0]), (.int .i64 6, .fn (.func 120) [] [.ptr 7 0, .ptr 6 0]), (.int .i64 7, .fn (.func 121) [] [.ptr 7 0, .ptr 6 0])] 5) (tr2 := []) (by kernel_rfl) (by simp [hitC, missC, sameB, sameE, hn276, hn289, hn302, hn315, hn328, hn341]) ?_
           obtain ⟨y16, hy18, h51⟩ := bindS h50
           refine kCG (some 79) (args := [.ptr 7 0]) (v := .bool y16) (H2 := [.box (encSt28 x0), .box [.bool false, .nl, .int .i64 0], vecL (encI .u8) 1 5 y1.1, .res, .box [.bool x0.Neg_, .bool s0, .int .i64 y0], .map [(.int .i64 0, .fn (.func 114) [] []), (.int .i64 1, .fn (.func 115) [] []), (.int .i64 2, .fn (.func 116) [] [.ptr 6 0]), (.int .i64 3, .fn (.func 117) [] [.ptr 6 0]), (.int .i64 4, .fn (.func 118) [] [.ptr 7 0]), (.int .i64 5, .fn (.func 119) [] [.ptr 7 0]), (.int .i64 6, .fn (.func 120) [] [.ptr 7 0, .ptr 6 0]), (.int .i64 7, .fn (.func 121) [] [.ptr 7 0, .ptr 6 0])], .box [.bool ((⟨x0.Neg_, s0, y0⟩ : St123).neg_), .bool ((⟨x0.Neg_, s0, y0⟩ : St123).odd_), .int .i64 ((⟨x0.Neg_, s0, y0⟩ : St123).half_)], .box [.fn (.func 113) [] [.ptr 6 0]]]) [7, 6] (round_ways_7_s0_ok hy18) ?_
           refine kEN ?_
           refine kBJ 79 h51 (fun h52 => ?_) (fun h53 => ?_)
           ·refine kT ?_
            refine kR ?_
            refine kC 1 [1,2,4,8,9,10,80] ?_
            obtain ⟨y8, hy19, h54⟩ := bindS h52
            refine kCG (some 81) (args := [.vc 2]) (v := lsv (encI .u8) 1 y8) (H2 := [.box (encSt28 x0), .box [.bool false, .nl, .int .i64 0], .gone, .res, .box [.bool x0.Neg_, .bool s0, .int .i64 y0], .map [(.int .i64 0, .fn (.func 114) [] []), (.int .i64 1, .fn (.func 115) [] []), (.int .i64 2, .fn (.func 116) [] [.ptr 6 0]), (.int .i64 3, .fn (.func 117) [] [.ptr 6 0]), (.int .i64 4, .fn (.func 118) [] [.ptr 7 0]), (.int .i64 5, .fn (.func 119) [] [.ptr 7 0]), (.int .i64 6, .fn (.func 120) [] [.ptr 7 0, .ptr 6 0]), (.int .i64 7, .fn (.func 121) [] [.ptr 7 0, .ptr 6 0])], .box [.bool ((⟨x0.Neg_, s0, y0⟩ : St123).neg_), .bool ((⟨x0.Neg_, s0, y0⟩ : St123).odd_), .int .i64 ((⟨x0.Neg_, s0, y0⟩ : St123).half_)], .box [.fn (.func 113) [] [.ptr 6 0]]]) [2] (round_next_ok_0 hy19) ?_
            refine kC 1 [1,2,4,8,9,10] ?_
            refine kE ?_
            obtain rfl := oi h54
            refine kW (L2 := [(1, .int .i64 x1), (2, .int .i64 x2), (4, .ptr 0 0), (8, .ptr 1 0), (9, .int .i64 0), (10, lsv (encI .u8) 1 y8)]) (H2 := [.box (encSt28 x0), .box [.bool false, .nl, .int .i64 0]]) hFH hFD [0, 1] ?_
            exact kN [1, 2, 4, 8, 9, 10]
           ·refine kF ?_
            refine kK ?_
            obtain rfl := oi h53
            refine PJ.wk (Wk.freeze 2 (n := y1.1.length) (k := 1) (e := 5) (cs := y1.1.flatMap (encI .u8)) (by kernel_rfl)) ?_
            refine kW (L2 := [(1, .int .i64 x1), (2, .int .i64 x2), (4, .ptr 0 0), (8, .ptr 1 0), (9, .int .i64 0), (10, lsv (encI .u8) 1 y1.1)]) (H2 := [.box (encSt28 x0), .box [.bool false, .nl, .int .i64 0]]) hFH hFD [0, 1] ?_
            exact kN [1, 2, 4, 8, 9, 10]
         ·have h55 := condT hb4 h6
          have hn328 := of_decide_eq_true hb4
          refine RJ.look (some 4) (d := some 78) (ef := ⟨.fn (.func 118) [] [.ptr 7 0], [5], []⟩) (c := hitC (.int .i64 x3) [(.int .i64 0, .fn (.func 114) [] []), (.int .i64 1, .fn (.func 115) [] []), (.int .i64 2, .fn (.func 116) [] [.ptr 6 0]), (.int .i64 3, .fn (.func 117) [] [.ptr 6 0]), (.int .i64 4, .fn (.func 118) [] [.ptr 7 0]), (.int .i64 5, .fn (.func 119) [] [.ptr 7 0]), (.int .i64 6, .fn (.func 120) [] [.ptr 7 0, .ptr 6 0]), (.int .i64 7, .fn (.func 121) [] [.ptr 7 0, .ptr 6 0])] 4) (tr2 := []) (by kernel_rfl) (by simp [hitC, missC, sameB, sameE, hn276, hn289, hn302, hn315, hn328]) ?_
          obtain ⟨y15, hy20, h56⟩ := bindS h55
          refine kCG (some 79) (args := [.ptr 7 0]) (v := .bool y15) (H2 := [.box (encSt28 x0), .box [.bool false, .nl, .int .i64 0], vecL (encI .u8) 1 5 y1.1, .res, .box [.bool x0.Neg_, .bool s0, .int .i64 y0], .map [(.int .i64 0, .fn (.func 114) [] []), (.int .i64 1, .fn (.func 115) [] []), (.int .i64 2, .fn (.func 116) [] [.ptr 6 0]), (.int .i64 3, .fn (.func 117) [] [.ptr 6 0]), (.int .i64 4, .fn (.func 118) [] [.ptr 7 0]), (.int .i64 5, .fn (.func 119) [] [.ptr 7 0]), (.int .i64 6, .fn (.func 120) [] [.ptr 7 0, .ptr 6 0]), (.int .i64 7, .fn (.func 121) [] [.ptr 7 0, .ptr 6 0])], .box [.bool ((⟨x0.Neg_, s0, y0⟩ : St123).neg_), .bool ((⟨x0.Neg_, s0, y0⟩ : St123).odd_), .int .i64 ((⟨x0.Neg_, s0, y0⟩ : St123).half_)], .box [.fn (.func 113) [] [.ptr 6 0]]]) [7, 6] (round_ways_6_s0_ok hy20) ?_
          refine kEN ?_
          refine kBJ 79 h56 (fun h57 => ?_) (fun h58 => ?_)
          ·refine kT ?_
           refine kR ?_
           refine kC 1 [1,2,4,8,9,10,80] ?_
           obtain ⟨y7, hy21, h59⟩ := bindS h57
           refine kCG (some 81) (args := [.vc 2]) (v := lsv (encI .u8) 1 y7) (H2 := [.box (encSt28 x0), .box [.bool false, .nl, .int .i64 0], .gone, .res, .box [.bool x0.Neg_, .bool s0, .int .i64 y0], .map [(.int .i64 0, .fn (.func 114) [] []), (.int .i64 1, .fn (.func 115) [] []), (.int .i64 2, .fn (.func 116) [] [.ptr 6 0]), (.int .i64 3, .fn (.func 117) [] [.ptr 6 0]), (.int .i64 4, .fn (.func 118) [] [.ptr 7 0]), (.int .i64 5, .fn (.func 119) [] [.ptr 7 0]), (.int .i64 6, .fn (.func 120) [] [.ptr 7 0, .ptr 6 0]), (.int .i64 7, .fn (.func 121) [] [.ptr 7 0, .ptr 6 0])], .box [.bool ((⟨x0.Neg_, s0, y0⟩ : St123).neg_), .bool ((⟨x0.Neg_, s0, y0⟩ : St123).odd_), .int .i64 ((⟨x0.Neg_, s0, y0⟩ : St123).half_)], .box [.fn (.func 113) [] [.ptr 6 0]]]) [2] (round_next_ok_0 hy21) ?_
           refine kC 1 [1,2,4,8,9,10] ?_
           refine kE ?_
           obtain rfl := oi h59
           refine kW (L2 := [(1, .int .i64 x1), (2, .int .i64 x2), (4, .ptr 0 0), (8, .ptr 1 0), (9, .int .i64 0), (10, lsv (encI .u8) 1 y7)]) (H2 := [.box (encSt28 x0), .box [.bool false, .nl, .int .i64 0]]) hFH hFD [0, 1] ?_
           exact kN [1, 2, 4, 8, 9, 10]
          ·refine kF ?_
           refine kK ?_
           obtain rfl := oi h58
           refine PJ.wk (Wk.freeze 2 (n := y1.1.length) (k := 1) (e := 5) (cs := y1.1.flatMap (encI .u8)) (by kernel_rfl)) ?_
           refine kW (L2 := [(1, .int .i64 x1), (2, .int .i64 x2), (4, .ptr 0 0), (8, .ptr 1 0), (9, .int .i64 0), (10, lsv (encI .u8) 1 y1.1)]) (H2 := [.box (encSt28 x0), .box [.bool false, .nl, .int .i64 0]]) hFH hFD [0, 1] ?_
           exact kN [1, 2, 4, 8, 9, 10]
        ·have h60 := condT hb3 h5
         have hn315 := of_decide_eq_true hb3
         refine RJ.look (some 3) (d := some 78) (ef := ⟨.fn (.func 117) [] [.ptr 6 0], [5], []⟩) (c := hitC (.int .i64 x3) [(.int .i64 0, .fn (.func 114) [] []), (.int .i64 1, .fn (.func 115) [] []), (.int .i64 2, .fn (.func 116) [] [.ptr 6 0]), (.int .i64 3, .fn (.func 117) [] [.ptr 6 0]), (.int .i64 4, .fn (.func 118) [] [.ptr 7 0]), (.int .i64 5, .fn (.func 119) [] [.ptr 7 0]), (.int .i64 6, .fn (.func 120) [] [.ptr 7 0, .ptr 6 0]), (.int .i64 7, .fn (.func 121) [] [.ptr 7 0, .ptr 6 0])] 3) (tr2 := []) (by kernel_rfl) (by simp [hitC, missC, sameB, sameE, hn276, hn289, hn302, hn315]) ?_
         obtain ⟨y14, hy22, h61⟩ := bindS h60
         refine kCG (some 79) (args := [.ptr 6 0]) (v := .bool y14) (H2 := [.box (encSt28 x0), .box [.bool false, .nl, .int .i64 0], vecL (encI .u8) 1 5 y1.1, .res, .box [.bool x0.Neg_, .bool s0, .int .i64 y0], .map [(.int .i64 0, .fn (.func 114) [] []), (.int .i64 1, .fn (.func 115) [] []), (.int .i64 2, .fn (.func 116) [] [.ptr 6 0]), (.int .i64 3, .fn (.func 117) [] [.ptr 6 0]), (.int .i64 4, .fn (.func 118) [] [.ptr 7 0]), (.int .i64 5, .fn (.func 119) [] [.ptr 7 0]), (.int .i64 6, .fn (.func 120) [] [.ptr 7 0, .ptr 6 0]), (.int .i64 7, .fn (.func 121) [] [.ptr 7 0, .ptr 6 0])], .box [.bool ((⟨x0.Neg_, s0, y0⟩ : St123).neg_), .bool ((⟨x0.Neg_, s0, y0⟩ : St123).odd_), .int .i64 ((⟨x0.Neg_, s0, y0⟩ : St123).half_)], .box [.fn (.func 113) [] [.ptr 6 0]]]) [6] (round_ways_5_s0_ok hy22) ?_
         refine kEN ?_
         refine kBJ 79 h61 (fun h62 => ?_) (fun h63 => ?_)
         ·refine kT ?_
          refine kR ?_
          refine kC 1 [1,2,4,8,9,10,80] ?_
          obtain ⟨y6, hy23, h64⟩ := bindS h62
          refine kCG (some 81) (args := [.vc 2]) (v := lsv (encI .u8) 1 y6) (H2 := [.box (encSt28 x0), .box [.bool false, .nl, .int .i64 0], .gone, .res, .box [.bool x0.Neg_, .bool s0, .int .i64 y0], .map [(.int .i64 0, .fn (.func 114) [] []), (.int .i64 1, .fn (.func 115) [] []), (.int .i64 2, .fn (.func 116) [] [.ptr 6 0]), (.int .i64 3, .fn (.func 117) [] [.ptr 6 0]), (.int .i64 4, .fn (.func 118) [] [.ptr 7 0]), (.int .i64 5, .fn (.func 119) [] [.ptr 7 0]), (.int .i64 6, .fn (.func 120) [] [.ptr 7 0, .ptr 6 0]), (.int .i64 7, .fn (.func 121) [] [.ptr 7 0, .ptr 6 0])], .box [.bool ((⟨x0.Neg_, s0, y0⟩ : St123).neg_), .bool ((⟨x0.Neg_, s0, y0⟩ : St123).odd_), .int .i64 ((⟨x0.Neg_, s0, y0⟩ : St123).half_)], .box [.fn (.func 113) [] [.ptr 6 0]]]) [2] (round_next_ok_0 hy23) ?_
          refine kC 1 [1,2,4,8,9,10] ?_
          refine kE ?_
          obtain rfl := oi h64
          refine kW (L2 := [(1, .int .i64 x1), (2, .int .i64 x2), (4, .ptr 0 0), (8, .ptr 1 0), (9, .int .i64 0), (10, lsv (encI .u8) 1 y6)]) (H2 := [.box (encSt28 x0), .box [.bool false, .nl, .int .i64 0]]) hFH hFD [0, 1] ?_
          exact kN [1, 2, 4, 8, 9, 10]
         ·refine kF ?_
          refine kK ?_
          obtain rfl := oi h63
          refine PJ.wk (Wk.freeze 2 (n := y1.1.length) (k := 1) (e := 5) (cs := y1.1.flatMap (encI .u8)) (by kernel_rfl)) ?_
          refine kW (L2 := [(1, .int .i64 x1), (2, .int .i64 x2), (4, .ptr 0 0), (8, .ptr 1 0), (9, .int .i64 0), (10, lsv (encI .u8) 1 y1.1)]) (H2 := [.box (encSt28 x0), .box [.bool false, .nl, .int .i64 0]]) hFH hFD [0, 1] ?_
          exact kN [1, 2, 4, 8, 9, 10]
       ·have h65 := condT hb2 h4
        have hn302 := of_decide_eq_true hb2
        refine RJ.look (some 2) (d := some 78) (ef := ⟨.fn (.func 116) [] [.ptr 6 0], [5], []⟩) (c := hitC (.int .i64 x3) [(.int .i64 0, .fn (.func 114) [] []), (.int .i64 1, .fn (.func 115) [] []), (.int .i64 2, .fn (.func 116) [] [.ptr 6 0]), (.int .i64 3, .fn (.func 117) [] [.ptr 6 0]), (.int .i64 4, .fn (.func 118) [] [.ptr 7 0]), (.int .i64 5, .fn (.func 119) [] [.ptr 7 0]), (.int .i64 6, .fn (.func 120) [] [.ptr 7 0, .ptr 6 0]), (.int .i64 7, .fn (.func 121) [] [.ptr 7 0, .ptr 6 0])] 2) (tr2 := []) (by kernel_rfl) (by simp [hitC, missC, sameB, sameE, hn276, hn289, hn302]) ?_
        obtain ⟨y13, hy24, h66⟩ := bindS h65
        refine kCG (some 79) (args := [.ptr 6 0]) (v := .bool y13) (H2 := [.box (encSt28 x0), .box [.bool false, .nl, .int .i64 0], vecL (encI .u8) 1 5 y1.1, .res, .box [.bool x0.Neg_, .bool s0, .int .i64 y0], .map [(.int .i64 0, .fn (.func 114) [] []), (.int .i64 1, .fn (.func 115) [] []), (.int .i64 2, .fn (.func 116) [] [.ptr 6 0]), (.int .i64 3, .fn (.func 117) [] [.ptr 6 0]), (.int .i64 4, .fn (.func 118) [] [.ptr 7 0]), (.int .i64 5, .fn (.func 119) [] [.ptr 7 0]), (.int .i64 6, .fn (.func 120) [] [.ptr 7 0, .ptr 6 0]), (.int .i64 7, .fn (.func 121) [] [.ptr 7 0, .ptr 6 0])], .box [.bool ((⟨x0.Neg_, s0, y0⟩ : St123).neg_), .bool ((⟨x0.Neg_, s0, y0⟩ : St123).odd_), .int .i64 ((⟨x0.Neg_, s0, y0⟩ : St123).half_)], .box [.fn (.func 113) [] [.ptr 6 0]]]) [6] (round_ways_4_s0_ok hy24) ?_
        refine kEN ?_
        refine kBJ 79 h66 (fun h67 => ?_) (fun h68 => ?_)
        ·refine kT ?_
         refine kR ?_
         refine kC 1 [1,2,4,8,9,10,80] ?_
         obtain ⟨y5, hy25, h69⟩ := bindS h67
         refine kCG (some 81) (args := [.vc 2]) (v := lsv (encI .u8) 1 y5) (H2 := [.box (encSt28 x0), .box [.bool false, .nl, .int .i64 0], .gone, .res, .box [.bool x0.Neg_, .bool s0, .int .i64 y0], .map [(.int .i64 0, .fn (.func 114) [] []), (.int .i64 1, .fn (.func 115) [] []), (.int .i64 2, .fn (.func 116) [] [.ptr 6 0]), (.int .i64 3, .fn (.func 117) [] [.ptr 6 0]), (.int .i64 4, .fn (.func 118) [] [.ptr 7 0]), (.int .i64 5, .fn (.func 119) [] [.ptr 7 0]), (.int .i64 6, .fn (.func 120) [] [.ptr 7 0, .ptr 6 0]), (.int .i64 7, .fn (.func 121) [] [.ptr 7 0, .ptr 6 0])], .box [.bool ((⟨x0.Neg_, s0, y0⟩ : St123).neg_), .bool ((⟨x0.Neg_, s0, y0⟩ : St123).odd_), .int .i64 ((⟨x0.Neg_, s0, y0⟩ : St123).half_)], .box [.fn (.func 113) [] [.ptr 6 0]]]) [2] (round_next_ok_0 hy25) ?_
         refine kC 1 [1,2,4,8,9,10] ?_
         refine kE ?_
         obtain rfl := oi h69
         refine kW (L2 := [(1, .int .i64 x1), (2, .int .i64 x2), (4, .ptr 0 0), (8, .ptr 1 0), (9, .int .i64 0), (10, lsv (encI .u8) 1 y5)]) (H2 := [.box (encSt28 x0), .box [.bool false, .nl, .int .i64 0]]) hFH hFD [0, 1] ?_
         exact kN [1, 2, 4, 8, 9, 10]
        ·refine kF ?_
         refine kK ?_
         obtain rfl := oi h68
         refine PJ.wk (Wk.freeze 2 (n := y1.1.length) (k := 1) (e := 5) (cs := y1.1.flatMap (encI .u8)) (by kernel_rfl)) ?_
         refine kW (L2 := [(1, .int .i64 x1), (2, .int .i64 x2), (4, .ptr 0 0), (8, .ptr 1 0), (9, .int .i64 0), (10, lsv (encI .u8) 1 y1.1)]) (H2 := [.box (encSt28 x0), .box [.bool false, .nl, .int .i64 0]]) hFH hFD [0, 1] ?_
         exact kN [1, 2, 4, 8, 9, 10]
      ·have h70 := condT hb1 h3
       have hn289 := of_decide_eq_true hb1
       refine RJ.look (some 1) (d := some 78) (ef := ⟨.fn (.func 115) [] [], [5], []⟩) (c := hitC (.int .i64 x3) [(.int .i64 0, .fn (.func 114) [] []), (.int .i64 1, .fn (.func 115) [] []), (.int .i64 2, .fn (.func 116) [] [.ptr 6 0]), (.int .i64 3, .fn (.func 117) [] [.ptr 6 0]), (.int .i64 4, .fn (.func 118) [] [.ptr 7 0]), (.int .i64 5, .fn (.func 119) [] [.ptr 7 0]), (.int .i64 6, .fn (.func 120) [] [.ptr 7 0, .ptr 6 0]), (.int .i64 7, .fn (.func 121) [] [.ptr 7 0, .ptr 6 0])] 1) (tr2 := []) (by kernel_rfl) (by simp [hitC, missC, sameB, sameE, hn276, hn289]) ?_
       obtain ⟨y24, hy26, h71⟩ := bindS h70
       refine kA 79 (round_ways_3_ok hy26) ?_
       refine kEN ?_
       refine kBJ 79 h71 (fun h72 => ?_) (fun h73 => ?_)
       ·refine kT ?_
        refine kR ?_
        refine kC 1 [1,2,4,8,9,10,80] ?_
        obtain ⟨y4, hy27, h74⟩ := bindS h72
        refine kCG (some 81) (args := [.vc 2]) (v := lsv (encI .u8) 1 y4) (H2 := [.box (encSt28 x0), .box [.bool false, .nl, .int .i64 0], .gone, .res, .box [.bool x0.Neg_, .bool s0, .int .i64 y0], .map [(.int .i64 0, .fn (.func 114) [] []), (.int .i64 1, .fn (.func 115) [] []), (.int .i64 2, .fn (.func 116) [] [.ptr 6 0]), (.int .i64 3, .fn (.func 117) [] [.ptr 6 0]), (.int .i64 4, .fn (.func 118) [] [.ptr 7 0]), (.int .i64 5, .fn (.func 119) [] [.ptr 7 0]), (.int .i64 6, .fn (.func 120) [] [.ptr 7 0, .ptr 6 0]), (.int .i64 7, .fn (.func 121) [] [.ptr 7 0, .ptr 6 0])], .box [.bool ((⟨x0.Neg_, s0, y0⟩ : St123).neg_), .bool ((⟨x0.Neg_, s0, y0⟩ : St123).odd_), .int .i64 ((⟨x0.Neg_, s0, y0⟩ : St123).half_)], .box [.fn (.func 113) [] [.ptr 6 0]]]) [2] (round_next_ok_0 hy27) ?_
        refine kC 1 [1,2,4,8,9,10] ?_
        refine kE ?_
        obtain rfl := oi h74
        refine kW (L2 := [(1, .int .i64 x1), (2, .int .i64 x2), (4, .ptr 0 0), (8, .ptr 1 0), (9, .int .i64 0), (10, lsv (encI .u8) 1 y4)]) (H2 := [.box (encSt28 x0), .box [.bool false, .nl, .int .i64 0]]) hFH hFD [0, 1] ?_
        exact kN [1, 2, 4, 8, 9, 10]
       ·refine kF ?_
        refine kK ?_
        obtain rfl := oi h73
        refine PJ.wk (Wk.freeze 2 (n := y1.1.length) (k := 1) (e := 5) (cs := y1.1.flatMap (encI .u8)) (by kernel_rfl)) ?_
        refine kW (L2 := [(1, .int .i64 x1), (2, .int .i64 x2), (4, .ptr 0 0), (8, .ptr 1 0), (9, .int .i64 0), (10, lsv (encI .u8) 1 y1.1)]) (H2 := [.box (encSt28 x0), .box [.bool false, .nl, .int .i64 0]]) hFH hFD [0, 1] ?_
        exact kN [1, 2, 4, 8, 9, 10]
     ·have h75 := condT hb0 h2
      have hn276 := of_decide_eq_true hb0
      refine RJ.look (some 0) (d := some 78) (ef := ⟨.fn (.func 114) [] [], [5], []⟩) (c := hitC (.int .i64 x3) [(.int .i64 0, .fn (.func 114) [] []), (.int .i64 1, .fn (.func 115) [] []), (.int .i64 2, .fn (.func 116) [] [.ptr 6 0]), (.int .i64 3, .fn (.func 117) [] [.ptr 6 0]), (.int .i64 4, .fn (.func 118) [] [.ptr 7 0]), (.int .i64 5, .fn (.func 119) [] [.ptr 7 0]), (.int .i64 6, .fn (.func 120) [] [.ptr 7 0, .ptr 6 0]), (.int .i64 7, .fn (.func 121) [] [.ptr 7 0, .ptr 6 0])] 0) (tr2 := []) (by kernel_rfl) (by simp [hitC, missC, sameB, sameE, hn276]) ?_
      obtain ⟨y23, hy28, h76⟩ := bindS h75
      refine kA 79 (round_ways_2_ok hy28) ?_
      refine kEN ?_
      refine kBJ 79 h76 (fun h77 => ?_) (fun h78 => ?_)
      ·refine kT ?_
       refine kR ?_
       refine kC 1 [1,2,4,8,9,10,80] ?_
       obtain ⟨y3, hy29, h79⟩ := bindS h77
       refine kCG (some 81) (args := [.vc 2]) (v := lsv (encI .u8) 1 y3) (H2 := [.box (encSt28 x0), .box [.bool false, .nl, .int .i64 0], .gone, .res, .box [.bool x0.Neg_, .bool s0, .int .i64 y0], .map [(.int .i64 0, .fn (.func 114) [] []), (.int .i64 1, .fn (.func 115) [] []), (.int .i64 2, .fn (.func 116) [] [.ptr 6 0]), (.int .i64 3, .fn (.func 117) [] [.ptr 6 0]), (.int .i64 4, .fn (.func 118) [] [.ptr 7 0]), (.int .i64 5, .fn (.func 119) [] [.ptr 7 0]), (.int .i64 6, .fn (.func 120) [] [.ptr 7 0, .ptr 6 0]), (.int .i64 7, .fn (.func 121) [] [.ptr 7 0, .ptr 6 0])], .box [.bool ((⟨x0.Neg_, s0, y0⟩ : St123).neg_), .bool ((⟨x0.Neg_, s0, y0⟩ : St123).odd_), .int .i64 ((⟨x0.Neg_, s0, y0⟩ : St123).half_)], .box [.fn (.func 113) [] [.ptr 6 0]]]) [2] (round_next_ok_0 hy29) ?_
       refine kC 1 [1,2,4,8,9,10] ?_
       refine kE ?_
       obtain rfl := oi h79
       refine kW (L2 := [(1, .int .i64 x1), (2, .int .i64 x2), (4, .ptr 0 0), (8, .ptr 1 0), (9, .int .i64 0), (10, lsv (encI .u8) 1 y3)]) (H2 := [.box (encSt28 x0), .box [.bool false, .nl, .int .i64 0]]) hFH hFD [0, 1] ?_
       exact kN [1, 2, 4, 8, 9, 10]
      ·refine kF ?_
       refine kK ?_
       obtain rfl := oi h78
       refine PJ.wk (Wk.freeze 2 (n := y1.1.length) (k := 1) (e := 5) (cs := y1.1.flatMap (encI .u8)) (by kernel_rfl)) ?_
       refine kW (L2 := [(1, .int .i64 x1), (2, .int .i64 x2), (4, .ptr 0 0), (8, .ptr 1 0), (9, .int .i64 0), (10, lsv (encI .u8) 1 y1.1)]) (H2 := [.box (encSt28 x0), .box [.bool false, .nl, .int .i64 0]]) hFH hFD [0, 1] ?_
       exact kN [1, 2, 4, 8, 9, 10]
    ·refine kS ?_
     refine J.keep [1, 2, 4, 8, 9, 10] (L2 := [(1, .int .i64 x1), (2, .int .i64 x2), (4, .ptr 0 0), (8, .ptr 1 0), (9, .int .i64 0), (10, lsv (encI .u8) 1 s1)]) (by kernel_rfl) ?_
     refine K.draw (by kernel_rfl) (by kernel_rfl) (by kernel_rfl) (H2 := [.box (encSt28 x0), .box [.bool false, .nl, .int .i64 0], .res, .res]) (by kernel_rfl) (n := 2) (by kernel_rfl) ?_
     refine kD 4 ?_
     obtain ⟨y11, hy30, h80⟩ := bindS h38
     refine RJ.call0 (d := (some 86)) (f := 95) (args := [lsv (encI .u8) 1 s1, .int .i64 x1]) (v := lsv (encI .u8) 1 y11) (tr2 := [([], []), ([0, 1], []), ([], []), ([], []), ([], [4, 5])]) (by kernel_rfl) (by kernel_rfl) (.cons (Le.refl _) (.cons (Le.refl _) .nil)) (round_times_ok hy30) (by kernel_rfl) ?_
     refine kD 1 ?_
     obtain ⟨y2, hy31, h81⟩ := bindS h80
     refine RJ.call0 (d := (some 88)) (f := 49) (args := [.bool x0.Neg_, lsv (encI .u8) 1 y11, .int .i64 x2]) (v := .tup [.agg (encSt28 y2.1), .int .i64 y2.2]) (tr2 := [([], []), ([0, 1], []), ([], []), ([], []), ([], [4, 5]), ([], []), ([], [6, 7])]) (by kernel_rfl) (by kernel_rfl) (.cons (Le.refl _) (.cons (Le.refl _) (.cons (Le.refl _) .nil))) (dec_Norm_ok hy31) (by kernel_rfl) ?_
     refine kD 4 ?_
     refine kEN ?_
     refine kX ?_
     obtain rfl := oi h81
     exact kZ hFn hFH hFD
def round_Sig (x0 : St28) (x1 : Int) (x2 : Int) : Option (St28 × Int) :=
 (Option.bind (Option.bind (bif (decide (x1 < 1)) then (some true) else (Option.bind (round_Is x2) fun y3 => (bif (!y3) then (some true) else (Option.bind (dec_Right x0) fun y4 => (some (!y4)))))) fun (s0 : Bool) => (bif s0 then (some (.inr ((⟨false, ([] : List Int), 0⟩ : St28), 1))) else (some (.inl ())))) (joinX fun (s2 : Unit) => (Option.bind (Option.bind (bif (decide ((x0.D_.length : Int) = 0)) then (some true) else (Option.bind (dec_Mag x0) fun y5 => (some ((decide (x1 > ((IntKind.wrap .i64 ((IntKind.wrap .i64 (y5 + 1000)) + 1))))))))) fun (s1 : Bool) => (bif s1 then (Option.bind (dec_Norm x0.Neg_ x0.D_ x0.E_) fun y2 => (some (.inr (y2.1, y2.2)))) else (some (.inl ())))) (joinX fun (s3 : Unit) => (Option.bind (dec_Mag x0) fun y1 => (Option.bind (round_Inc x0 1 ((IntKind.wrap .i64 ((IntKind.wrap .i64 (y1 - x1)) + 1))) x2) fun y0 => (some (y0.1, y0.2))))))))
theorem round_Sig_ok {x0 : St28} {x1 : Int} {x2 : Int} {r : St28 × Int} (h : round_Sig x0 x1 x2 = some r) : SC Tryz.prog 27 [.agg (encSt28 x0), .int .i64 x1, .int .i64 x2] [] (.tup [.agg (encSt28 r.1), .int .i64 r.2]) [] := by
 refine kFn (fn := Tryz.f27) (fun F hFn hFH hFD => ?_)
 unfold round_Sig at h
 refine kSR ?_
 refine kC 3 [1,2,3,6,7] ?_
 refine kEN ?_
 obtain ⟨y6, hy0, h0⟩ := bindS h
 refine K.cutX (by kernel_rfl) (fun (s2 : Unit) => ([(1, .int .i64 x1), (2, .int .i64 x2), (3, .ptr 0 0), (6, .ptr 1 0), (7, .int .i64 0)], [.box (encSt28 x0), .box [.bool false, .nl, .int .i64 0]])) y6 ?_ (fun s2 hs => ?_)
 ·obtain ⟨s0, hy1, h2⟩ := bindS hy0
  refine K.cutN (by kernel_rfl) (fun (s0 : Bool) => ([(1, .int .i64 x1), (2, .int .i64 x2), (3, .ptr 0 0), (6, .ptr 1 0), (7, .int .i64 0), (19, .bool s0)], [.box (encSt28 x0), .box [.bool false, .nl, .int .i64 0]])) s0 ?_ ?_
  ·refine kR ?_
   refine kC 3 [1,2,3,6,7,10] ?_
   refine kB 10 hy1 (fun h3 => ?_) (fun h4 => ?_)
   ·refine kC 9 [1,2,3,6,7,19] ?_
    refine kE ?_
    obtain rfl := oi h3
    exact kN [1, 2, 3, 6, 7, 19]
   ·refine kC 1 [1,2,3,6,7,10,11] ?_
    obtain ⟨y3, hy2, h5⟩ := bindS h4
    refine kA 12 (round_Is_ok hy2) ?_
    refine kC 3 [1,2,3,6,7,15] ?_
    refine kB 15 h5 (fun h6 => ?_) (fun h7 => ?_)
    ·refine kC 4 [1,2,3,6,7,19] ?_
     refine kE ?_
     obtain rfl := oi h6
     exact kN [1, 2, 3, 6, 7, 19]
    ·refine kC 1 [1,2,3,6,7,15,16] ?_
     obtain ⟨y4, hy3, h8⟩ := bindS h7
     refine kA 17 (dec_Right_ok hy3) ?_
     refine kC 2 [1,2,3,6,7,19] ?_
     refine kE ?_
     obtain rfl := oi h8
     exact kN [1, 2, 3, 6, 7, 19]
  ·refine kBJ 19 h2 (fun h9 => ?_) (fun h10 => ?_)
   ·refine kT ?_
    refine kSR ?_
    refine kC 3 [1,2,3,6,7] ?_
    refine kEN ?_
    refine kX ?_
    obtain rfl := oi h9
    have h11 := joinX_inr h0
    refine PJ.cutXr (fun e => nomatch e) ?_
    obtain rfl := oi h11
    refine PJ.res (v1 := .tup [.agg [.bool false, .nl, .int .i64 0], .int .i64 1]) (Le.tup (.cons (Le.agg (.cons (Le.refl _) (.cons (Le.nl _) (.cons (Le.refl _) .nil)))) (.cons (Le.refl _) .nil))) ?_
    exact kZ hFn hFH hFD
   ·refine kF ?_
    refine kK ?_
    obtain rfl := oi h10
    exact kXl [1, 2, 3, 6, 7]
 ·subst hs
  have h12 := joinX_inl h0
  obtain ⟨y7, hy4, h1⟩ := bindS h12
  refine K.cutX (by kernel_rfl) (fun (s3 : Unit) => ([(1, .int .i64 x1), (2, .int .i64 x2), (3, .ptr 0 0), (6, .ptr 1 0), (7, .int .i64 0)], [.box (encSt28 x0), .box [.bool false, .nl, .int .i64 0]])) y7 ?_ (fun s3 hs => ?_)
  ·obtain ⟨s1, hy5, h13⟩ := bindS hy4
   refine K.cutN (by kernel_rfl) (fun (s1 : Bool) => ([(1, .int .i64 x1), (2, .int .i64 x2), (3, .ptr 0 0), (6, .ptr 1 0), (7, .int .i64 0), (32, .bool s1)], [.box (encSt28 x0), .box [.bool false, .nl, .int .i64 0]])) s1 ?_ ?_
   ·refine kR ?_
    refine kC 5 [1,2,3,6,7,25] ?_
    refine kB 25 hy5 (fun h14 => ?_) (fun h15 => ?_)
    ·refine kC 7 [1,2,3,6,7,32] ?_
     refine kE ?_
     obtain rfl := oi h14
     exact kN [1, 2, 3, 6, 7, 32]
    ·refine kC 2 [1,2,3,6,7,25,26,27] ?_
     obtain ⟨y5, hy6, h16⟩ := bindS h15
     refine kA 28 (dec_Mag_ok hy6) ?_
     refine kC 4 [1,2,3,6,7,32] ?_
     refine kE ?_
     obtain rfl := oi h16
     exact kN [1, 2, 3, 6, 7, 32]
   ·refine kBJ 32 h13 (fun h17 => ?_) (fun h18 => ?_)
    ·refine kT ?_
     refine kSR ?_
     refine kC 6 [1,2,3,6,7,34,36,38] ?_
     obtain ⟨y2, hy7, h19⟩ := bindS h17
     refine kA 39 (dec_Norm_ok hy7) ?_
     refine kC 4 [1,2,3,6,7] ?_
     refine kEN ?_
     refine kX ?_
     obtain rfl := oi h19
     have h20 := joinX_inr h1
     refine PJ.cutXr (fun e => nomatch e) ?_
     obtain rfl := oi h20
     exact kZ hFn hFH hFD
    ·refine kF ?_
     refine kK ?_
     obtain rfl := oi h18
     exact kXl [1, 2, 3, 6, 7]
  ·subst hs
   have h21 := joinX_inl h1
   refine kS ?_
   refine J.keep [1, 2, 3, 6, 7] (L2 := [(1, .int .i64 x1), (2, .int .i64 x2), (3, .ptr 0 0), (6, .ptr 1 0), (7, .int .i64 0)]) (by kernel_rfl) ?_
   refine K.draw (by kernel_rfl) (by kernel_rfl) (by kernel_rfl) (H2 := [.box (encSt28 x0), .box [.bool false, .nl, .int .i64 0], .res, .res]) (by kernel_rfl) (n := 2) (by kernel_rfl) ?_
   refine kD 2 ?_
   obtain ⟨y1, hy8, h22⟩ := bindS h21
   refine RJ.call0 (d := (some 44)) (f := 65) (args := [.agg (encSt28 x0)]) (v := .int .i64 y1) (tr2 := [([0, 1], []), ([0, 1], []), ([], [4, 5])]) (by kernel_rfl) (by kernel_rfl) (.cons (Le.refl _) .nil) (dec_Mag_ok hy8) (by kernel_rfl) ?_
   refine kD 4 ?_
   obtain ⟨y0, hy9, h23⟩ := bindS h22
   refine RJ.call0 (d := (some 49)) (f := 66) (args := [.agg (encSt28 x0), .int .i64 1, .int .i64 ((IntKind.wrap .i64 ((IntKind.wrap .i64 (y1 - x1)) + 1))), .int .i64 x2]) (v := .tup [.agg (encSt28 y0.1), .int .i64 y0.2]) (tr2 := [([0, 1], []), ([0, 1], []), ([], [4, 5]), ([], []), ([], []), ([], []), ([], []), ([], [6, 7])]) (by kernel_rfl) (by kernel_rfl) (.cons (Le.refl _) (.cons (Le.refl _) (.cons (Le.refl _) (.cons (Le.refl _) .nil)))) (round_Inc_ok hy9) (by kernel_rfl) ?_
   refine kD 4 ?_
   refine kEN ?_
   refine kX ?_
   obtain rfl := oi h23
   exact kZ hFn hFH hFD
def round_To (x0 : St28) (x1 : Int) (x2 : Int) : Option (St28 × Int) :=
 (Option.bind (round_Inc x0 1 x1 x2) fun y0 => (some (y0.1, y0.2)))
theorem round_To_ok {x0 : St28} {x1 : Int} {x2 : Int} {r : St28 × Int} (h : round_To x0 x1 x2 = some r) : SC Tryz.prog 29 [.agg (encSt28 x0), .int .i64 x1, .int .i64 x2] [] (.tup [.agg (encSt28 r.1), .int .i64 r.2]) [] := by
 refine kFn (fn := Tryz.f29) (fun F hFn hFH hFD => ?_)
 unfold round_To at h
 refine kSR ?_
 refine kC 3 [1,2,3,6,7] ?_
 refine kEN ?_
 refine kSR ?_
 refine kC 3 [6,7,8,9,10] ?_
 obtain ⟨y0, hy0, h0⟩ := bindS h
 refine kA 11 (round_Inc_ok hy0) ?_
 refine kC 4 [6,7] ?_
 refine kEN ?_
 refine kX ?_
 obtain rfl := oi h0
 exact kZ hFn hFH hFD
def shape_Round (x0 : St25) (x1 : Int) (x2 : St28) (x3 : Int) : Option (St28 × Int) :=
 (bif (decide (x0.Exp_ > 0)) then (Option.bind (shape_count x0.MaxFrac_) fun y1 => (Option.bind (round_Sig x2 (IntKind.wrap .i64 (y1 + 1)) x3) fun y0 => (some (y0.1, y0.2)))) else (bif (decide (x0.MaxSig_ > 0)) then (Option.bind (round_Sig x2 x0.MaxSig_ x3) fun y2 => (some (y2.1, y2.2))) else (bif (decide (x1 ≥ 0)) then (Option.bind (round_To x2 (IntKind.wrap .i64 (0 - x1)) x3) fun y3 => (some (y3.1, y3.2))) else (Option.bind (round_To x2 (IntKind.wrap .i64 (0 - x0.MaxFrac_)) x3) fun y4 => (some (y4.1, y4.2))))))
theorem shape_Round_ok {x0 : St25} {x1 : Int} {x2 : St28} {x3 : Int} {r : St28 × Int} (h : shape_Round x0 x1 x2 x3 = some r) : SC Tryz.prog 9 [.agg (encSt25 x0), .int .i64 x1, .agg (encSt28 x2), .int .i64 x3] [] (.tup [.agg (encSt28 r.1), .int .i64 r.2]) [] := by
 refine kFn (fn := Tryz.f9) (fun F hFn hFH hFD => ?_)
 unfold shape_Round at h
 refine kSR ?_
 refine kC 4 [1,3,4,6,8,9] ?_
 refine kEN ?_
 refine kS ?_
 refine kb 0 ?_
 refine kSR ?_
 refine kC 4 [1,3,4,6,8,9,10] ?_
 refine kEN ?_
 refine kBJ 10 h (fun h0 => ?_) (fun h1 => ?_)
 ·refine kT ?_
  refine kS ?_
  refine J.keep [3, 4, 6, 8, 9] (L2 := [(3, .int .i64 x3), (4, .ptr 0 0), (6, .ptr 1 0), (8, .ptr 2 0), (9, .int .i64 0)]) (by kernel_rfl) ?_
  refine K.draw (by kernel_rfl) (by kernel_rfl) (by kernel_rfl) (H2 := [.box (encSt25 x0), .box (encSt28 x2), .box [.bool false, .nl, .int .i64 0], .res, .res]) (by kernel_rfl) (n := 3) (by kernel_rfl) ?_
  refine kD 3 ?_
  obtain ⟨y1, hy0, h2⟩ := bindS h0
  refine RJ.call0 (d := (some 17)) (f := 28) (args := [.int .i64 x0.MaxFrac_]) (v := .int .i64 y1) (tr2 := [([2, 3], []), ([], []), ([0, 1], []), ([], [6, 7])]) (by kernel_rfl) (by kernel_rfl) (.cons (Le.refl _) .nil) (shape_count_ok hy0) (by kernel_rfl) ?_
  refine kD 2 ?_
  obtain ⟨y0, hy1, h3⟩ := bindS h2
  refine RJ.call0 (d := (some 20)) (f := 27) (args := [.agg (encSt28 x2), .int .i64 (IntKind.wrap .i64 (y1 + 1)), .int .i64 x3]) (v := .tup [.agg (encSt28 y0.1), .int .i64 y0.2]) (tr2 := [([2, 3], []), ([], []), ([0, 1], []), ([], [6, 7]), ([], []), ([], []), ([], [8, 9])]) (by kernel_rfl) (by kernel_rfl) (.cons (Le.refl _) (.cons (Le.refl _) (.cons (Le.refl _) .nil))) (round_Sig_ok hy1) (by kernel_rfl) ?_
  refine kD 4 ?_
  refine kEN ?_
  refine kX ?_
  refine PJ.blockRet ?_
  refine PJ.passRet ?_
  obtain rfl := oi h3
  exact kZ hFn hFH hFD
 ·refine kF ?_
  refine kSR ?_
  refine kC 4 [1,3,4,6,8,9,23] ?_
  refine kEN ?_
  refine kBJ 23 h1 (fun h4 => ?_) (fun h5 => ?_)
  ·refine kT ?_
   refine kSR ?_
   refine kC 4 [3,4,6,8,9,27,29,30] ?_
   obtain ⟨y2, hy2, h6⟩ := bindS h4
   refine kA 31 (round_Sig_ok hy2) ?_
   refine kC 4 [3,4,6,8,9] ?_
   refine kEN ?_
   refine kX ?_
   refine PJ.blockRet ?_
   refine PJ.passRet ?_
   obtain rfl := oi h6
   exact kZ hFn hFH hFD
  ·refine kF ?_
   refine kSR ?_
   refine kC 3 [1,3,4,6,8,9,34] ?_
   refine kEN ?_
   refine kBJ 34 h5 (fun h7 => ?_) (fun h8 => ?_)
   ·refine kT ?_
    refine kSR ?_
    refine kC 4 [3,4,6,8,9,37,39,40] ?_
    obtain ⟨y3, hy3, h9⟩ := bindS h7
    refine kA 41 (round_To_ok hy3) ?_
    refine kC 4 [3,4,6,8,9] ?_
    refine kEN ?_
    refine kX ?_
    refine PJ.blockRet ?_
    refine PJ.passRet ?_
    obtain rfl := oi h9
    exact kZ hFn hFH hFD
   ·refine kF ?_
    refine kK ?_
    refine PJ.blockNormal ?_
    refine PJ.next ?_
    refine kSR ?_
    refine kC 5 [8,9,44,47,48] ?_
    obtain ⟨y4, hy4, h10⟩ := bindS h8
    refine kA 49 (round_To_ok hy4) ?_
    refine kC 4 [8,9] ?_
    refine kEN ?_
    refine kX ?_
    obtain rfl := oi h10
    exact kZ hFn hFH hFD
def exergueref05_Number : Nat → Int → Option (List UInt8)
 | 0, _ => none
 | n + 1, x0 => (bif (decide (x0 < 0)) then (Option.bind (exergueref05_Number n (IntKind.wrap .i64 (0 - x0))) fun y0 => (bif room (([45] : List UInt8).length + y0.length) then (some (([45] : List UInt8) ++ y0)) else none)) else (Option.bind (loopN (fun (s0 : Int × (List UInt8)) => (bif (decide (s0.1 ≥ 10)) then (bif room (((bytesS (([(IntKind.wrap .u8 ((IntKind.wrap .i64 (48 + ((Int.tmod (IntKind.wrap .i64 (Int.tdiv s0.1 10)) 10))))))] : List Int)))).length + s0.2.length) then (some (.inl ((IntKind.wrap .i64 (Int.tdiv s0.1 10)), (((bytesS (([(IntKind.wrap .u8 ((IntKind.wrap .i64 (48 + ((Int.tmod (IntKind.wrap .i64 (Int.tdiv s0.1 10)) 10))))))] : List Int)))) ++ s0.2)))) else none) else (some (.inr s0.2)))) big (x0, (bytesS (([(IntKind.wrap .u8 ((IntKind.wrap .i64 (48 + (Int.tmod x0 10)))))] : List Int))))) fun (s1 : (List UInt8)) => (some s1)))
theorem exergueref05_Number_ok : ∀ (n : Nat) {x0 : Int} {r : List UInt8} (h : exergueref05_Number n x0 = some r), SC Tryz.prog 45 [.int .i64 x0] [] (.str r) [] := by
 intro n
 induction n with
 | zero => intro x0 r h; cases h
 | succ n ih =>
 intro x0 r h
 refine kFn (fn := Tryz.f45) (fun F hFn hFH hFD => ?_)
 rw [exergueref05_Number.eq_2] at h
 refine kSR ?_
 refine kC 1 [0,2] ?_
 refine kEN ?_
 refine kS ?_
 refine kSR ?_
 refine kC 2 [0,2,5] ?_
 refine kEN ?_
 refine kBJ 5 h (fun h0 => ?_) (fun h1 => ?_)
 ·refine kT ?_
  refine kSR ?_
  refine kC 2 [0,2,7] ?_
  obtain ⟨y0, hy0, h2⟩ := bindS h0
  refine kA 8 (ih hy0) ?_
  obtain ⟨hm, h3⟩ := asrt h2
  refine kQ 9 (.str (([45] : List UInt8) ++ y0)) [] (tr2 := []) hm ?_
  refine kC 1 [0,2] ?_
  refine kEN ?_
  refine kX ?_
  refine PJ.passRet ?_
  obtain rfl := oi h3
  exact kZ hFn hFH hFD
 ·refine kF ?_
  refine kK ?_
  refine PJ.next ?_
  refine kSR ?_
  refine kC 5 [0,2,14] ?_
  refine RJ.rel (d := (some 15)) (ef := ⟨.str (((([(IntKind.wrap .u8 ((IntKind.wrap .i64 (48 + (Int.tmod x0 10)))))] : List Int)).flatMap (encI .u8)).map Go.Sy.byteOf), [0], []⟩) (ef' := ⟨.str (bytesS (([(IntKind.wrap .u8 ((IntKind.wrap .i64 (48 + (Int.tmod x0 10)))))] : List Int))), [0], []⟩) (c := ((([(IntKind.wrap .u8 ((IntKind.wrap .i64 (48 + (Int.tmod x0 10)))))] : List Int)).flatMap (encI .u8)).all isByte) (tr2 := []) (H2 := [vecL (encI .u8) 1 5 (([(IntKind.wrap .u8 ((IntKind.wrap .i64 (48 + (Int.tmod x0 10)))))] : List Int))]) (by kernel_rfl) (allByte (([(IntKind.wrap .u8 ((IntKind.wrap .i64 (48 + (Int.tmod x0 10)))))] : List Int))) (fun hc => N.toStr) (by kernel_rfl) ?_
  refine kC 1 [0,2,3] ?_
  refine kEN ?_
  obtain ⟨s1, hy1, h4⟩ := bindS h1
  refine K.cutN (by kernel_rfl) (fun (s1 : (List UInt8)) => ([(2, .str ([] : List UInt8)), (3, .str s1)], [])) s1 ?_ ?_
  ·refine kb 0 ?_
   refine J.wk (Wk.sel (L2 := [(0, .int .i64 x0), (2, .str ([] : List UInt8)), (3, .str ((bytesS (([(IntKind.wrap .u8 ((IntKind.wrap .i64 (48 + (Int.tmod x0 10)))))] : List Int)))))]) (H2 := []) 0 (by rw [hFH]; rfl) hFD [] (by kernel_rfl) (by kernel_rfl) (by decide) (by kernel_rfl) (by kernel_rfl) (by kernel_rfl) (by kernel_rfl)) ?_
   refine kl (fun (s0 : Int × (List UInt8)) => ([(0, .int .i64 s0.1), (2, .str ([] : List UInt8)), (3, .str s0.2)], [])) hy1 [0, 2, 3] (fun s0 x48 hs0 => ?_)
   refine kS ?_
   refine kSR ?_
   refine kC 2 [0,2,3,17] ?_
   refine kEN ?_
   refine kBJ 17 hs0 (fun h5 => ?_) (fun h6 => ?_)
   ·refine kT ?_
    refine kK ?_
    refine PJ.next ?_
    refine kb 1 ?_
    refine kSR ?_
    refine kC 3 [0,2,3] ?_
    refine kEN ?_
    refine kR ?_
    refine kC 5 [0,2,3,24] ?_
    refine RJ.rel (d := (some 25)) (ef := ⟨.str (((([(IntKind.wrap .u8 ((IntKind.wrap .i64 (48 + ((Int.tmod (IntKind.wrap .i64 (Int.tdiv s0.1 10)) 10))))))] : List Int)).flatMap (encI .u8)).map Go.Sy.byteOf), [0], []⟩) (ef' := ⟨.str (bytesS (([(IntKind.wrap .u8 ((IntKind.wrap .i64 (48 + ((Int.tmod (IntKind.wrap .i64 (Int.tdiv s0.1 10)) 10))))))] : List Int))), [0], []⟩) (c := ((([(IntKind.wrap .u8 ((IntKind.wrap .i64 (48 + ((Int.tmod (IntKind.wrap .i64 (Int.tdiv s0.1 10)) 10))))))] : List Int)).flatMap (encI .u8)).all isByte) (tr2 := []) (H2 := [vecL (encI .u8) 1 5 (([(IntKind.wrap .u8 ((IntKind.wrap .i64 (48 + ((Int.tmod (IntKind.wrap .i64 (Int.tdiv s0.1 10)) 10))))))] : List Int))]) (by kernel_rfl) (allByte (([(IntKind.wrap .u8 ((IntKind.wrap .i64 (48 + ((Int.tmod (IntKind.wrap .i64 (Int.tdiv s0.1 10)) 10))))))] : List Int))) (fun hc => N.toStr) (by kernel_rfl) ?_
    refine kC 1 [0,2,3,25,26] ?_
    obtain ⟨hm, h7⟩ := asrt h5
    refine kQ 27 (.str (((bytesS (([(IntKind.wrap .u8 ((IntKind.wrap .i64 (48 + ((Int.tmod (IntKind.wrap .i64 (Int.tdiv s0.1 10)) 10))))))] : List Int)))) ++ s0.2)) [] (tr2 := []) hm ?_
    refine kC 1 [0,2,3] ?_
    refine kE ?_
    refine PJ.blockNormal ?_
    obtain rfl := oi h7
    refine kW (L2 := [(0, .int .i64 (IntKind.wrap .i64 (Int.tdiv s0.1 10))), (2, .str ([] : List UInt8)), (3, .str ((((bytesS (([(IntKind.wrap .u8 ((IntKind.wrap .i64 (48 + ((Int.tmod (IntKind.wrap .i64 (Int.tdiv s0.1 10)) 10))))))] : List Int)))) ++ s0.2)))]) (H2 := []) hFH hFD [] ?_
    exact kLN [0, 2, 3]
   ·refine kF ?_
    refine K.exit 0 (by kernel_rfl) ?_
    refine PJ.passExit ?_
    obtain rfl := oi h6
    refine PJ.loopOut (fun e => nomatch e) (fun he0 => ?_)
    have h8 := congrArg some he0
    refine PJ.blockOut ?_
    obtain rfl := oi h8
    exact kN [2, 3]
  ·refine kSR ?_
   refine kC 2 [2] ?_
   refine kEN ?_
   refine kX ?_
   obtain rfl := oi h4
   exact kZ hFn hFH hFD
def exergueref05_Text (x0 : St28) : Option (List UInt8) :=
 (Option.bind (bif x0.Neg_ then (some ([45] : List UInt8)) else (some ([] : List UInt8))) fun (s3 : (List UInt8)) => (Option.bind (loopN (fun (s0 : (List UInt8) × Int) => (bif (decide (s0.2 < (x0.D_.length : Int))) then (bif inR s0.2 x0.D_.length then (bif room (s0.1.length + ((bytesS (([(IntKind.wrap .u8 (48 + (nth x0.D_ s0.2)))] : List Int)))).length) then (some (.inl ((s0.1 ++ ((bytesS (([(IntKind.wrap .u8 (48 + (nth x0.D_ s0.2)))] : List Int))))), (IntKind.wrap .i64 (s0.2 + 1))))) else none) else none) else (some (.inr s0.1)))) big (s3, 0)) fun (s2 : (List UInt8)) => (Option.bind (bif (decide ((x0.D_.length : Int) = 0)) then (bif room (s2.length + ([48] : List UInt8).length) then (some (s2 ++ ([48] : List UInt8))) else none) else (some s2)) fun (s1 : (List UInt8)) => (bif room (s1.length + ([101] : List UInt8).length) then (Option.bind (exergueref05_Number big x0.E_) fun y0 => (bif room ((s1 ++ ([101] : List UInt8)).length + y0.length) then (some ((s1 ++ ([101] : List UInt8)) ++ y0)) else none)) else none))))
theorem exergueref05_Text_ok {x0 : St28} {r : List UInt8} (h : exergueref05_Text x0 = some r) : SC Tryz.prog 21 [.agg (encSt28 x0)] [] (.str r) [] := by
 refine kFn (fn := Tryz.f21) (fun F hFn hFH hFD => ?_)
 unfold exergueref05_Text at h
 refine kSR ?_
 refine kC 2 [1,2] ?_
 refine kEN ?_
 refine kSR ?_
 refine kC 1 [1,2,3] ?_
 refine kEN ?_
 obtain ⟨s3, hy0, h0⟩ := bindS h
 refine K.cutN (by kernel_rfl) (fun (s3 : (List UInt8)) => ([(1, .ptr 0 0), (2, .str ([] : List UInt8)), (3, .str s3)], [.box (encSt28 x0)])) s3 ?_ ?_
 ·refine kSR ?_
  refine kC 2 [1,2,3,6] ?_
  refine kEN ?_
  refine kBJ 6 hy0 (fun h1 => ?_) (fun h2 => ?_)
  ·refine kT ?_
   refine kR ?_
   refine kC 1 [1,2,3] ?_
   refine kE ?_
   obtain rfl := oi h1
   exact kN [1, 2, 3]
  ·refine kF ?_
   refine kK ?_
   obtain rfl := oi h2
   exact kN [1, 2, 3]
 ·obtain ⟨s2, hy1, h3⟩ := bindS h0
  refine K.cutN (by kernel_rfl) (fun (s2 : (List UInt8)) => ([(1, .ptr 0 0), (2, .str ([] : List UInt8)), (3, .str s2)], [.box (encSt28 x0)])) s2 ?_ ?_
  ·refine kSR ?_
   refine kC 1 [1,2,3,4] ?_
   refine kEN ?_
   refine kb 0 ?_
   refine kl (fun (s0 : (List UInt8) × Int) => ([(1, .ptr 0 0), (2, .str ([] : List UInt8)), (3, .str s0.1), (4, .int .i64 s0.2)], [.box (encSt28 x0)])) hy1 [1, 2, 3, 4] (fun s0 x57 hs0 => ?_)
   refine kS ?_
   refine kSR ?_
   refine kC 5 [1,2,3,4,11] ?_
   refine kEN ?_
   refine kBJ 11 hs0 (fun h4 => ?_) (fun h5 => ?_)
   ·refine kT ?_
    refine kK ?_
    refine PJ.next ?_
    refine kS ?_
    refine kb 1 ?_
    refine kR ?_
    refine kC 4 [1,2,3,4,14,16,17] ?_
    obtain ⟨hm, h6⟩ := asrt h4
    refine kI 18 (encI_len .u8) hm ?_
    refine kC 3 [1,2,3,4,14,21] ?_
    refine RJ.rel (d := (some 22)) (ef := ⟨.str (((([(IntKind.wrap .u8 (48 + (nth x0.D_ s0.2)))] : List Int)).flatMap (encI .u8)).map Go.Sy.byteOf), [1], []⟩) (ef' := ⟨.str (bytesS (([(IntKind.wrap .u8 (48 + (nth x0.D_ s0.2)))] : List Int))), [1], []⟩) (c := ((([(IntKind.wrap .u8 (48 + (nth x0.D_ s0.2)))] : List Int)).flatMap (encI .u8)).all isByte) (tr2 := []) (H2 := [.box (encSt28 x0), vecL (encI .u8) 1 5 (([(IntKind.wrap .u8 (48 + (nth x0.D_ s0.2)))] : List Int))]) (by kernel_rfl) (allByte (([(IntKind.wrap .u8 (48 + (nth x0.D_ s0.2)))] : List Int))) (fun hc => N.toStr) (by kernel_rfl) ?_
    obtain ⟨hm, h7⟩ := asrt h6
    refine kQ 23 (.str (s0.1 ++ ((bytesS (([(IntKind.wrap .u8 (48 + (nth x0.D_ s0.2)))] : List Int)))))) [] (tr2 := []) hm ?_
    refine kC 1 [1,2,3,4] ?_
    refine kE ?_
    refine PJ.blockNormal ?_
    refine PJ.next ?_
    refine kR ?_
    refine kC 3 [1,2,3,4] ?_
    refine kE ?_
    obtain rfl := oi h7
    refine kW (L2 := [(1, .ptr 0 0), (2, .str ([] : List UInt8)), (3, .str ((s0.1 ++ ((bytesS (([(IntKind.wrap .u8 (48 + (nth x0.D_ s0.2)))] : List Int))))))), (4, .int .i64 (IntKind.wrap .i64 (s0.2 + 1)))]) (H2 := [.box (encSt28 x0)]) hFH hFD [0] ?_
    exact kLN [1, 2, 3, 4]
   ·refine kF ?_
    refine K.exit 0 (by kernel_rfl) ?_
    refine PJ.passExit ?_
    obtain rfl := oi h5
    refine PJ.loopOut (fun e => nomatch e) (fun he0 => ?_)
    have h8 := congrArg some he0
    refine PJ.blockOut ?_
    obtain rfl := oi h8
    exact kN [1, 2, 3]
  ·obtain ⟨s1, hy2, h9⟩ := bindS h3
   refine K.cutN (by kernel_rfl) (fun (s1 : (List UInt8)) => ([(1, .ptr 0 0), (2, .str ([] : List UInt8)), (3, .str s1)], [.box (encSt28 x0)])) s1 ?_ ?_
   ·refine kSR ?_
    refine kC 4 [1,2,3,27] ?_
    refine kEN ?_
    refine kBJ 27 hy2 (fun h10 => ?_) (fun h11 => ?_)
    ·refine kT ?_
     refine kR ?_
     refine kC 1 [1,2,3,28] ?_
     obtain ⟨hm, h12⟩ := asrt h10
     refine kQ 29 (.str (s2 ++ ([48] : List UInt8))) [] (tr2 := []) hm ?_
     refine kC 1 [1,2,3] ?_
     refine kE ?_
     obtain rfl := oi h12
     exact kN [1, 2, 3]
    ·refine kF ?_
     refine kK ?_
     obtain rfl := oi h11
     exact kN [1, 2, 3]
   ·refine kSR ?_
    refine kC 1 [1,2,30] ?_
    obtain ⟨hm, h13⟩ := asrt h9
    refine kQ 31 (.str (s1 ++ ([101] : List UInt8))) [] (tr2 := []) hm ?_
    refine kC 2 [2,31,33] ?_
    obtain ⟨y0, hy3, h14⟩ := bindS h13
    refine kA 34 (exergueref05_Number_ok big hy3) ?_
    obtain ⟨hm, h15⟩ := asrt h14
    refine kQ 35 (.str ((s1 ++ ([101] : List UInt8)) ++ y0)) [] (tr2 := []) hm ?_
    refine kC 1 [2] ?_
    refine kEN ?_
    refine kX ?_
    obtain rfl := oi h15
    exact kZ hFn hFH hFD
def exerguelaw17_shown  : Option (Bool) :=
 (Option.bind exerguelaw17_latin fun y3 => (Option.bind (shape_Write y3 (⟨([] : List St106), ([] : List St106), ([] : List St106), ([] : List St106), false, 3, 1, 2, 2, 3, 3, 0, 0, 0, false, 0, 0⟩ : St25) (-1) (⟨false, ([1, 2, 3, 4, 5] : List Int), (-1)⟩ : St28)) fun y0 => (Option.bind exerguelaw17_latin fun y4 => (Option.bind (shape_Read y4 (⟨([] : List St106), ([] : List St106), ([] : List St106), ([] : List St106), false, 3, 1, 2, 2, 3, 3, 0, 0, 0, false, 0, 0⟩ : St25) y0) fun y1 => (Option.bind (shape_Round (⟨([] : List St106), ([] : List St106), ([] : List St106), ([] : List St106), false, 3, 1, 2, 2, 3, 3, 0, 0, 0, false, 0, 0⟩ : St25) (-1) (⟨false, ([1, 2, 5] : List Int), (-3)⟩ : St28) 6) fun y2 => (Option.bind (bif ((runesS y0) == ([49, 44, 50, 51, 52, 46, 53, 48] : List UInt8)) then (bif (decide (y1.2 = 0)) then (Option.bind (exergueref05_Text y1.1) fun y6 => (bif (y6 == ([49, 50, 51, 52, 53, 101, 45, 49] : List UInt8)) then (bif (decide (y2.2 = 0)) then (Option.bind (exergueref05_Text y2.1) fun y5 => (some (y5 == ([49, 50, 101, 45, 50] : List UInt8)))) else (some false)) else (some false))) else (some false)) else (some false)) fun (s0 : Bool) => (some s0)))))))
theorem exerguelaw17_shown_ok  {r : Bool} (h : exerguelaw17_shown = some r) : SC Tryz.prog 5 [] [] (.bool r) [] := by
 refine kFn (fn := Tryz.f5) (fun F hFn hFH hFD => ?_)
 unfold exerguelaw17_shown at h
 refine kSR ?_
 refine kC 1 [0] ?_
 refine kEN ?_
 refine kSR ?_
 refine kC 3 [0,1] ?_
 refine kEN ?_
 refine kS ?_
 refine J.keep [0, 1] (L2 := [(0, .bool false), (1, .ptr 0 0)]) (by kernel_rfl) ?_
 refine K.draw (by kernel_rfl) (by kernel_rfl) (by kernel_rfl) (H2 := [.box [.nl, .nl, .nl, .nl, .bool false, .int .i64 3, .int .i64 1, .int .i64 2, .int .i64 2, .int .i64 3, .int .i64 3, .int .i64 0, .int .i64 0, .int .i64 0, .bool false, .int .i32 0, .int .i64 0], .res, .res, .res]) (by kernel_rfl) (n := 1) (by kernel_rfl) ?_
 obtain ⟨y3, hy0, h0⟩ := bindS h
 refine RJ.call0 (d := (some 8)) (f := 20) (args := []) (v := .agg (encSt22 y3)) (tr2 := [([], [2, 3])]) (by kernel_rfl) (by kernel_rfl) .nil (exerguelaw17_latin_ok hy0) (by kernel_rfl) ?_
 refine kD 1 ?_
 refine RJ.relZ (d := (some 10)) (ef := ⟨.lst ([1, 2, 3, 4, 5] : List Int).length 1 (([1, 2, 3, 4, 5] : List Int).flatMap (encI .u8)), [], [(2, .vec ([1, 2, 3, 4, 5] : List Int).length 1 5 (([1, 2, 3, 4, 5] : List Int).flatMap (encI .u8))), (2, .gone)]⟩) (ef' := ⟨.lst ([1, 2, 3, 4, 5] : List Int).length 1 (([1, 2, 3, 4, 5] : List Int).flatMap (encI .u8)), [], [(2, .vec ([1, 2, 3, 4, 5] : List Int).length 1 5 (([1, 2, 3, 4, 5] : List Int).flatMap (encI .u8))), (2, .gone)]⟩) (c := true) (tr2 := [([], [2, 3]), ([0, 1], []), ([], [4, 5, 4, 5, 4, 5])]) (H2 := [.box [.nl, .nl, .nl, .nl, .bool false, .int .i64 3, .int .i64 1, .int .i64 2, .int .i64 2, .int .i64 3, .int .i64 3, .int .i64 0, .int .i64 0, .int .i64 0, .bool false, .int .i32 0, .int .i64 0], .res, .gone, .res]) (by kernel_rfl) rfl (fun hc => rfl) (by kernel_rfl) ?_
 refine kD 1 ?_
 obtain ⟨y0, hy1, h1⟩ := bindS h0
 refine RJ.call0 (d := (some 12)) (f := 16) (args := [.agg (encSt22 y3), .agg [.nl, .nl, .nl, .nl, .bool false, .int .i64 3, .int .i64 1, .int .i64 2, .int .i64 2, .int .i64 3, .int .i64 3, .int .i64 0, .int .i64 0, .int .i64 0, .bool false, .int .i32 0, .int .i64 0], .int .i64 (-1), .agg [.bool false, lsv (encI .u8) 1 ([1, 2, 3, 4, 5] : List Int), .int .i64 (-1)]]) (v := lsv (encI .i32) 1 y0) (tr2 := [([], [2, 3]), ([0, 1], []), ([], [4, 5, 4, 5, 4, 5]), ([], []), ([], [6, 7])]) (by kernel_rfl) (by kernel_rfl) (.cons (Le.refl _) (.cons (Le.agg (.cons (Le.nl _) (.cons (Le.nl _) (.cons (Le.nl _) (.cons (Le.nl _) (.cons (Le.refl _) (.cons (Le.refl _) (.cons (Le.refl _) (.cons (Le.refl _) (.cons (Le.refl _) (.cons (Le.refl _) (.cons (Le.refl _) (.cons (Le.refl _) (.cons (Le.refl _) (.cons (Le.refl _) (.cons (Le.refl _) (.cons (Le.refl _) (.cons (Le.refl _) .nil)))))))))))))))))) (.cons (Le.refl _) (.cons (Le.refl _) .nil)))) (shape_Write_ok hy1) (by kernel_rfl) ?_
 refine kD 1 ?_
 refine kEN ?_
 refine kS ?_
 refine J.keep [0, 1, 2] (L2 := [(0, .bool false), (1, .ptr 0 0), (2, lsv (encI .i32) 1 y0)]) (by kernel_rfl) ?_
 refine K.draw (by kernel_rfl) (by kernel_rfl) (by kernel_rfl) (H2 := [.box [.nl, .nl, .nl, .nl, .bool false, .int .i64 3, .int .i64 1, .int .i64 2, .int .i64 2, .int .i64 3, .int .i64 3, .int .i64 0, .int .i64 0, .int .i64 0, .bool false, .int .i32 0, .int .i64 0], .res, .gone, .res, .res, .res, .res]) (by kernel_rfl) (n := 4) (by kernel_rfl) ?_
 obtain ⟨y4, hy2, h2⟩ := bindS h1
 refine RJ.call0 (d := (some 14)) (f := 20) (args := []) (v := .agg (encSt22 y4)) (tr2 := [([], [8, 9])]) (by kernel_rfl) (by kernel_rfl) .nil (exerguelaw17_latin_ok hy2) (by kernel_rfl) ?_
 refine kD 2 ?_
 obtain ⟨y1, hy3, h3⟩ := bindS h2
 refine RJ.call0 (d := (some 17)) (f := 18) (args := [.agg (encSt22 y4), .agg [.nl, .nl, .nl, .nl, .bool false, .int .i64 3, .int .i64 1, .int .i64 2, .int .i64 2, .int .i64 3, .int .i64 3, .int .i64 0, .int .i64 0, .int .i64 0, .bool false, .int .i32 0, .int .i64 0], lsv (encI .i32) 1 y0]) (v := .tup [.agg (encSt28 y1.1), .int .i64 y1.2]) (tr2 := [([], [8, 9]), ([0, 1], []), ([], []), ([], [10, 11])]) (by kernel_rfl) (by kernel_rfl) (.cons (Le.refl _) (.cons (Le.agg (.cons (Le.nl _) (.cons (Le.nl _) (.cons (Le.nl _) (.cons (Le.nl _) (.cons (Le.refl _) (.cons (Le.refl _) (.cons (Le.refl _) (.cons (Le.refl _) (.cons (Le.refl _) (.cons (Le.refl _) (.cons (Le.refl _) (.cons (Le.refl _) (.cons (Le.refl _) (.cons (Le.refl _) (.cons (Le.refl _) (.cons (Le.refl _) (.cons (Le.refl _) .nil)))))))))))))))))) (.cons (Le.refl _) .nil))) (shape_Read_ok hy3) (by kernel_rfl) ?_
 refine kD 6 ?_
 refine kEN ?_
 refine kSR ?_
 refine kC 3 [0,2,3,4,21,23] ?_
 obtain ⟨y2, hy4, h4⟩ := bindS h3
 refine RJ.wk (Wk.freeze 7 (n := ([1, 2, 5] : List Int).length) (k := 1) (e := 5) (cs := ([1, 2, 5] : List Int).flatMap (encI .u8)) (by kernel_rfl)) ?_
 refine RJ.call0 (d := (some 24)) (f := 9) (args := [.agg [.nl, .nl, .nl, .nl, .bool false, .int .i64 3, .int .i64 1, .int .i64 2, .int .i64 2, .int .i64 3, .int .i64 3, .int .i64 0, .int .i64 0, .int .i64 0, .bool false, .int .i32 0, .int .i64 0], .int .i64 (-1), .agg [.bool false, lsv (encI .u8) 1 ([1, 2, 5] : List Int), .int .i64 (-3)], .int .i64 6]) (v := .tup [.agg (encSt28 y2.1), .int .i64 y2.2]) (tr2 := []) (by kernel_rfl) (by kernel_rfl) (.cons (Le.agg (.cons (Le.nl _) (.cons (Le.nl _) (.cons (Le.nl _) (.cons (Le.nl _) (.cons (Le.refl _) (.cons (Le.refl _) (.cons (Le.refl _) (.cons (Le.refl _) (.cons (Le.refl _) (.cons (Le.refl _) (.cons (Le.refl _) (.cons (Le.refl _) (.cons (Le.refl _) (.cons (Le.refl _) (.cons (Le.refl _) (.cons (Le.refl _) (.cons (Le.refl _) .nil)))))))))))))))))) (.cons (Le.refl _) (.cons (Le.refl _) (.cons (Le.refl _) .nil)))) (shape_Round_ok hy4) (by kernel_rfl) ?_
 refine RJ.seg 6 [0, 2, 3, 4, 5, 6] (L2 := [(0, .bool false), (2, lsv (encI .i32) 1 y0), (3, .ptr 6 0), (4, .int .i64 y1.2), (5, .ptr 8 0), (6, .int .i64 y2.2)]) (H2 := [.box [.nl, .nl, .nl, .nl, .bool false, .int .i64 3, .int .i64 1, .int .i64 2, .int .i64 2, .int .i64 3, .int .i64 3, .int .i64 0, .int .i64 0, .int .i64 0, .bool false, .int .i32 0, .int .i64 0], .res, .gone, .res, .res, .res, .box (encSt28 y1.1), .gone, .box (encSt28 y2.1)]) (by kernel_rfl) ?_
 refine kEN ?_
 obtain ⟨s0, hy5, h5⟩ := bindS h4
 refine K.cutN (by kernel_rfl) (fun (s0 : Bool) => ([(0, .bool s0)], [])) s0 ?_ ?_
 ·refine kR ?_
  refine kC 1 [0,3,4,5,6,27] ?_
  refine RJ.rel (d := (some 28)) (ef := ⟨.str ((y0.flatMap (encI .i32)).flatMap Go.Sy.runeB), [], []⟩) (ef' := ⟨.str (runesS y0), [], []⟩) (c := (y0.flatMap (encI .i32)).all isRuneS) (tr2 := []) (H2 := [.box [.nl, .nl, .nl, .nl, .bool false, .int .i64 3, .int .i64 1, .int .i64 2, .int .i64 2, .int .i64 3, .int .i64 3, .int .i64 0, .int .i64 0, .int .i64 0, .bool false, .int .i32 0, .int .i64 0], .res, .gone, .res, .res, .res, .box (encSt28 y1.1), .gone, .box (encSt28 y2.1)]) (by kernel_rfl) (allRune y0) (fun hc => N.toRStr) (by kernel_rfl) ?_
  refine kC 2 [0,3,4,5,6,30] ?_
  refine kB 30 hy5 (fun h6 => ?_) (fun h7 => ?_)
  ·refine kC 4 [0,3,5,6,34] ?_
   refine kB 34 h6 (fun h8 => ?_) (fun h9 => ?_)
   ·refine kC 1 [0,5,6,34,35] ?_
    obtain ⟨y6, hy6, h10⟩ := bindS h8
    refine kA 36 (exergueref05_Text_ok hy6) ?_
    refine kC 3 [0,5,6,39] ?_
    refine kB 39 h10 (fun h11 => ?_) (fun h12 => ?_)
    ·refine kC 4 [0,5,43] ?_
     refine kB 43 h11 (fun h13 => ?_) (fun h14 => ?_)
     ·refine kC 1 [0,43,44] ?_
      obtain ⟨y5, hy7, h15⟩ := bindS h13
      refine kA 45 (exergueref05_Text_ok hy7) ?_
      refine kC 3 [0] ?_
      refine kE ?_
      obtain rfl := oi h15
      refine kW (L2 := [(0, .bool (y5 == ([49, 50, 101, 45, 50] : List UInt8)))]) (H2 := []) hFH hFD [] ?_
      exact kN [0]
     ·refine kC 5 [0] ?_
      refine kE ?_
      obtain rfl := oi h14
      refine kW (L2 := [(0, .bool false)]) (H2 := []) hFH hFD [] ?_
      exact kN [0]
    ·refine kC 9 [0] ?_
     refine kE ?_
     obtain rfl := oi h12
     refine kW (L2 := [(0, .bool false)]) (H2 := []) hFH hFD [] ?_
     exact kN [0]
   ·refine kC 14 [0] ?_
    refine kE ?_
    obtain rfl := oi h9
    refine kW (L2 := [(0, .bool false)]) (H2 := []) hFH hFD [] ?_
    exact kN [0]
  ·refine kC 18 [0] ?_
   refine kE ?_
   obtain rfl := oi h7
   refine kW (L2 := [(0, .bool false)]) (H2 := []) hFH hFD [] ?_
   exact kN [0]
 ·refine kX ?_
  obtain rfl := oi h5
  exact kZ hFn hFH hFD
def exergueref10_Few (x0 : St25) : Option (Bool) :=
 (some (decide (((IntKind.wrap .i64 (((IntKind.wrap .i64 (((IntKind.wrap .i64 ((x0.Pre_.length : Int) + (x0.Suf_.length : Int)))) + (x0.NPre_.length : Int)))) + (x0.NSuf_.length : Int)))) ≤ 300)))
theorem exergueref10_Few_ok {x0 : St25} {r : Bool} (h : exergueref10_Few x0 = some r) : SC Tryz.prog 22 [.agg (encSt25 x0)] [] (.bool r) [] := by
 refine kFn (fn := Tryz.f22) (fun F hFn hFH hFD => ?_)
 unfold exergueref10_Few at h
 refine kSR ?_
 refine kC 2 [1,2] ?_
 refine kEN ?_
 refine kSR ?_
 refine kC 17 [2] ?_
 refine kEN ?_
 refine kX ?_
 obtain rfl := oi h
 exact kZ hFn hFH hFD
def exergueref01_Is (x0 : Int) : Option (Bool) :=
 (Option.bind (bif (decide ((IntKind.wrap .i64 x0) ≥ 0)) then (bif (decide ((IntKind.wrap .i64 x0) < 55296)) then (some true) else (bif (decide ((IntKind.wrap .i64 x0) > 57343)) then (some ((decide ((IntKind.wrap .i64 x0) ≤ 1114111)))) else (some false))) else (bif (decide ((IntKind.wrap .i64 x0) > 57343)) then (some ((decide ((IntKind.wrap .i64 x0) ≤ 1114111)))) else (some false))) fun (s0 : Bool) => (some s0))
theorem exergueref01_Is_ok {x0 : Int} {r : Bool} (h : exergueref01_Is x0 = some r) : SC Tryz.prog 55 [.int .i32 x0] [] (.bool r) [] := by
 refine kFn (fn := Tryz.f55) (fun F hFn hFH hFD => ?_)
 unfold exergueref01_Is at h
 refine kSR ?_
 refine kC 1 [0,2] ?_
 refine kEN ?_
 refine kSR ?_
 refine kC 3 [2,3] ?_
 refine kEN ?_
 obtain ⟨s0, hy0, h0⟩ := bindS h
 refine K.cutN (by kernel_rfl) (fun (s0 : Bool) => ([(2, .bool s0)], [])) s0 ?_ ?_
 ·refine kR ?_
  refine kC 3 [2,3,8] ?_
  refine kB 8 hy0 (fun h1 => ?_) (fun h2 => ?_)
  ·refine kC 4 [2,3,12] ?_
   refine kB 12 h1 (fun h3 => ?_) (fun h4 => ?_)
   ·refine kC 8 [2] ?_
    refine kE ?_
    obtain rfl := oi h3
    exact kN [2]
   ·refine kC 3 [2,3,12,15] ?_
    refine kB 15 h4 (fun h5 => ?_) (fun h6 => ?_)
    ·refine kC 5 [2] ?_
     refine kE ?_
     obtain rfl := oi h5
     exact kN [2]
    ·refine kC 5 [2] ?_
     refine kE ?_
     obtain rfl := oi h6
     exact kN [2]
  ·refine kC 7 [2,3,12,15] ?_
   refine kB 15 h2 (fun h7 => ?_) (fun h8 => ?_)
   ·refine kC 5 [2] ?_
    refine kE ?_
    obtain rfl := oi h7
    exact kN [2]
   ·refine kC 5 [2] ?_
    refine kE ?_
    obtain rfl := oi h8
    exact kN [2]
 ·refine kX ?_
  obtain rfl := oi h0
  exact kZ hFn hFH hFD
def exergueref10_runes (x0 : List St106) : Option (Bool) :=
 (Option.bind (loopN (fun (s0 : Int) => (bif (decide (s0 < (x0.length : Int))) then (bif inR s0 x0.length then (Option.bind (exergueref01_Is ((nth x0 s0).R_)) fun y0 => (bif (!y0) then (some (.inr (.inr false))) else (some (.inl (IntKind.wrap .i64 (s0 + 1)))))) else none) else (some (.inr (.inl ()))))) big 0) (joinX fun (s1 : Unit) => (some true)))
theorem exergueref10_runes_ok {x0 : List St106} {r : Bool} (h : exergueref10_runes x0 = some r) : SC Tryz.prog 56 [lsv encSt106 2 x0] [] (.bool r) [] := by
 refine kFn (fn := Tryz.f56) (fun F hFn hFH hFD => ?_)
 unfold exergueref10_runes at h
 refine kSR ?_
 refine kC 1 [0,2] ?_
 refine kEN ?_
 obtain ⟨y1, hy0, h0⟩ := bindS h
 refine K.cutX (by kernel_rfl) (fun (s1 : Unit) => ([(2, .bool false)], [])) y1 ?_ (fun s1 hs => ?_)
 ·refine kSR ?_
  refine kC 1 [0,2,3] ?_
  refine kEN ?_
  refine kb 0 ?_
  refine kl (fun (s0 : Int) => ([(0, lsv encSt106 2 x0), (2, .bool false), (3, .int .i64 s0)], [])) hy0 [0, 2, 3] (fun s0 x86 hs0 => ?_)
  refine kS ?_
  refine kSR ?_
  refine kC 4 [0,2,3,8] ?_
  refine kEN ?_
  refine kBJ 8 hs0 (fun h1 => ?_) (fun h2 => ?_)
  ·refine kT ?_
   refine kK ?_
   refine PJ.next ?_
   refine kS ?_
   refine kb 1 ?_
   refine kSR ?_
   refine kC 2 [0,2,3,11,12] ?_
   obtain ⟨hm, h3⟩ := asrt h1
   refine kI 13 encSt106_len hm ?_
   refine kC 2 [0,2,3,15] ?_
   obtain ⟨y0, hy1, h4⟩ := bindS h3
   refine kA 16 (exergueref01_Is_ok hy1) ?_
   refine kC 1 [0,2,3,4] ?_
   refine kEN ?_
   refine kSR ?_
   refine kC 2 [0,2,3,18] ?_
   refine kEN ?_
   refine kBJ 18 h4 (fun h5 => ?_) (fun h6 => ?_)
   ·refine kT ?_
    refine kSR ?_
    refine kC 1 [0,2,3] ?_
    refine kEN ?_
    refine kX ?_
    refine PJ.blockRet ?_
    refine PJ.passRet ?_
    obtain rfl := oi h5
    refine PJ.loopOut (fun e => nomatch e) (fun he0 => ?_)
    have h7 := congrArg some he0
    refine PJ.blockRet ?_
    obtain rfl := oi h7
    have h8 := joinX_inr h0
    refine PJ.cutXr (fun e => nomatch e) ?_
    obtain rfl := oi h8
    exact kZ hFn hFH hFD
   ·refine kF ?_
    refine kK ?_
    refine PJ.blockNormal ?_
    refine PJ.next ?_
    refine kR ?_
    refine kC 3 [0,2,3] ?_
    refine kE ?_
    obtain rfl := oi h6
    exact kLN [0, 2, 3]
  ·refine kF ?_
   refine K.exit 0 (by kernel_rfl) ?_
   refine PJ.passExit ?_
   obtain rfl := oi h2
   refine PJ.loopOut (fun e => nomatch e) (fun he1 => ?_)
   have h9 := congrArg some he1
   refine PJ.blockOut ?_
   obtain rfl := oi h9
   exact kXl [2]
 ·subst hs
  have h10 := joinX_inl h0
  refine kSR ?_
  refine kC 1 [2] ?_
  refine kEN ?_
  refine kX ?_
  obtain rfl := oi h10
  exact kZ hFn hFH hFD
end Go.Proofs.YtcmmjficmoflkaaGreat
