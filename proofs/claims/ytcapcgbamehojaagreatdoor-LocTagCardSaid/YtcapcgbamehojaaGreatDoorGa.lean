/-
  What the functions of this program come to, as functions of natives, each with the proof that it does. No conditions.
-/
import Derived.Test.YtcapcgbamehojaaGreatDoorProg
import Derived.Test.YtcapcgbamehojaaGreatDoorSySL
import Derived.Test.YtcapcgbamehojaaGreatDoorSyPV
import Derived.Test.YtcapcgbamehojaaGreatDoorSyCC
import Derived.Test.YtcapcgbamehojaaGreatDoorSyFS
import Derived.Test.YtcapcgbamehojaaGreatDoorSyGL
import Derived.Test.YtcapcgbamehojaaGreatDoorSySC
import Derived.Shelf.Strings.Search1
import Derived.Shelf.Lays
import Derived.Lib.ItoaLen
namespace Go.Proofs.YtcapcgbamehojaaGreatDoor
open Go Go.Sy Go.RowKit
set_option linter.unusedVariables false
set_option linter.unusedSimpArgs false
set_option maxRecDepth 100000
set_option maxHeartbeats 4000000
abbrev iL (x : Int) : SV := .int .i64 x
abbrev iM (x : Int) : SV := .int .i32 x
abbrev lB (x : List Int) : SV := lsv (encI .u8) 1 x
abbrev lT (x : List (List UInt8)) : SV := lsv encT 1 x
abbrev lI (x : List Int) : SV := lsv (encI .i64) 1 x
abbrev lR (x : List Int) : SV := lsv (encI .i32) 1 x
abbrev q12 (a : List UInt8) (b0 b1 b2 b3 b4 b5 b6 : Int) (c0 c1 c2 c3 : List UInt8) (r : List SV) : List SV := .str a :: .int .i32 b0 :: .int .i32 b1 :: .int .i32 b2 :: .int .i32 b3 :: .int .i32 b4 :: .int .i32 b5 :: .int .i32 b6 :: .str c0 :: .str c1 :: .str c2 :: .str c3 :: r
def gtabs : Nat → Option (List SV)
 | 0 => some [.int .i32 48, .int .i32 1632, .int .i32 1776, .int .i32 1984, .int .i32 2406, .int .i32 2534, .int .i32 2662, .int .i32 2790, .int .i32 2918, .int .i32 3046, .int .i32 3174, .int .i32 3302, .int .i32 3430, .int .i32 3664, .int .i32 3792, .int .i32 3872, .int .i32 6112, .int .i32 6160, .int .i32 65296, .int .i32 120782]
 | 2 => some [.int .u64 1, .int .u64 10, .int .u64 100, .int .u64 1000, .int .u64 10000, .int .u64 100000, .int .u64 1000000, .int .u64 10000000, .int .u64 100000000, .int .u64 1000000000, .int .u64 10000000000, .int .u64 100000000000, .int .u64 1000000000000, .int .u64 10000000000000, .int .u64 100000000000000, .int .u64 1000000000000000, .int .u64 10000000000000000, .int .u64 100000000000000000, .int .u64 1000000000000000000, .int .u64 10000000000000000000]
 | 3 => some [.int .u8 0, .int .u8 1, .int .u8 28, .int .u8 2, .int .u8 29, .int .u8 14, .int .u8 24, .int .u8 3, .int .u8 30, .int .u8 22, .int .u8 20, .int .u8 15, .int .u8 25, .int .u8 17, .int .u8 4, .int .u8 8, .int .u8 31, .int .u8 27, .int .u8 13, .int .u8 23, .int .u8 21, .int .u8 19, .int .u8 16, .int .u8 7, .int .u8 26, .int .u8 12, .int .u8 18, .int .u8 6, .int .u8 11, .int .u8 5, .int .u8 10, .int .u8 9]
 | 4 => some [.int .u8 0, .int .u8 1, .int .u8 56, .int .u8 2, .int .u8 57, .int .u8 49, .int .u8 28, .int .u8 3, .int .u8 61, .int .u8 58, .int .u8 42, .int .u8 50, .int .u8 38, .int .u8 29, .int .u8 17, .int .u8 4, .int .u8 62, .int .u8 47, .int .u8 59, .int .u8 36, .int .u8 45, .int .u8 43, .int .u8 51, .int .u8 22, .int .u8 53, .int .u8 39, .int .u8 33, .int .u8 30, .int .u8 24, .int .u8 18, .int .u8 12, .int .u8 5, .int .u8 63, .int .u8 55, .int .u8 48, .int .u8 27, .int .u8 60, .int .u8 41, .int .u8 37, .int .u8 16, .int .u8 46, .int .u8 35, .int .u8 44, .int .u8 21, .int .u8 52, .int .u8 32, .int .u8 23, .int .u8 11, .int .u8 54, .int .u8 26, .int .u8 40, .int .u8 15, .int .u8 34, .int .u8 20, .int .u8 31, .int .u8 10, .int .u8 25, .int .u8 14, .int .u8 19, .int .u8 9, .int .u8 13, .int .u8 8, .int .u8 7, .int .u8 6]
 | _ => none
instance : Inhabited GT := ⟨⟨gtabs⟩⟩
structure St22 where
 Zero_ : Int
 Dec_ : Int
 Group_ : Int
 Minus_ : Int
 Plus_ : Int
 Percent_ : Int
 Exp_ : Int
 deriving Inhabited, DecidableEq
def encSt22 (x : St22) : List SV := [.int .i32 x.Zero_, .int .i32 x.Dec_, .int .i32 x.Group_, .int .i32 x.Minus_, .int .i32 x.Plus_, .int .i32 x.Percent_, .int .i32 x.Exp_]
theorem encSt22_len (x : St22) : (encSt22 x).length = 7 := rfl
def exerguelaw15_latin  : Option (St22) :=
 (some (⟨48, 46, 44, 45, 43, 37, 69⟩ : St22))
theorem exerguelaw15_latin_ok  {r : St22} (h : exerguelaw15_latin = some r) : SC Tryz.prog 32 [] [] (.agg (encSt22 r)) [] := by
 refine kFn (fn := Tryz.f32) (fun F hFn hFH hFD => ?_)
 unfold exerguelaw15_latin at h
 refine kSR ?_
 refine kC 1 [0] ?_
 refine kEN ?_
 refine kSR ?_
 refine kC 2 [0] ?_
 refine kEN ?_
 refine kX ?_
 obtain rfl := oi h
 exact kZ hFn hFH hFD
structure St106 where
 Kind_ : Int
 R_ : Int
 deriving Inhabited, DecidableEq
def encSt106 (x : St106) : List SV := [.int .i64 x.Kind_, .int .i32 x.R_]
theorem encSt106_len (x : St106) : (encSt106 x).length = 2 := rfl
structure St32 where
 Pre_ : List St106
 Suf_ : List St106
 NPre_ : List St106
 NSuf_ : List St106
 Neg_ : Bool
 Hash_ : Int
 MinInt_ : Int
 MinFrac_ : Int
 MaxFrac_ : Int
 G1_ : Int
 G2_ : Int
 MinSig_ : Int
 MaxSig_ : Int
 Exp_ : Int
 ExpPlus_ : Bool
 Pad_ : Int
 PadAt_ : Int
 deriving Inhabited, DecidableEq
def encSt32 (x : St32) : List SV := [lsv encSt106 2 x.Pre_, lsv encSt106 2 x.Suf_, lsv encSt106 2 x.NPre_, lsv encSt106 2 x.NSuf_, .bool x.Neg_, .int .i64 x.Hash_, .int .i64 x.MinInt_, .int .i64 x.MinFrac_, .int .i64 x.MaxFrac_, .int .i64 x.G1_, .int .i64 x.G2_, .int .i64 x.MinSig_, .int .i64 x.MaxSig_, .int .i64 x.Exp_, .bool x.ExpPlus_, .int .i32 x.Pad_, .int .i64 x.PadAt_]
theorem encSt32_len (x : St32) : (encSt32 x).length = 17 := rfl
def utf_promised (x0 : Int) : Option (Int) :=
 (bif (decide (x0 < 128)) then (some 1) else (bif (decide ((Int.fdiv x0 32) = 6)) then (some 2) else none))
theorem utf_promised_ok {x0 : Int} {r : Int} (h : utf_promised x0 = some r) : SC Tryz.prog 158 [.int .u8 x0] [] (iL r) [] := by
 refine kFn (fn := Tryz.f158) (fun F hFn hFH hFD => ?_)
 unfold utf_promised at h
 refine kSR ?_
 refine kC 1 [0,2] ?_
 refine kEN ?_
 refine kS ?_
 refine kb 0 ?_
 refine kSR ?_
 refine kC 3 [0,2,3] ?_
 refine kEN ?_
 refine kBJ 3 h (fun h0 => ?_) (fun h1 => ?_)
 ·refine kT ?_
  refine kSR ?_
  refine kC 1 [2] ?_
  refine kEN ?_
  refine kX ?_
  refine PJ.blockRet ?_
  refine PJ.passRet ?_
  obtain rfl := oi h0
  exact kZ hFn hFH hFD
 ·refine kF ?_
  refine kSR ?_
  refine kC 4 [0,2,6] ?_
  refine kEN ?_
  refine cF 6 h1 (fun h2 => ?_)
  refine kT ?_
  refine kSR ?_
  refine kC 1 [2] ?_
  refine kEN ?_
  refine kX ?_
  refine PJ.blockRet ?_
  refine PJ.passRet ?_
  obtain rfl := oi h2
  exact kZ hFn hFH hFD
def utf_mark (x0 : Int) : Option (Int) :=
 (bif (decide (x0 = 2)) then (some 192) else (bif (decide (x0 = 3)) then none else (bif (decide (x0 = 4)) then none else (some 0))))
theorem utf_mark_ok {x0 : Int} {r : Int} (h : utf_mark x0 = some r) : SC Tryz.prog 159 [iL x0] [] (.int .u8 r) [] := by
 refine kFn (fn := Tryz.f159) (fun F hFn hFH hFD => ?_)
 unfold utf_mark at h
 refine kSR ?_
 refine kC 1 [0,2] ?_
 refine kEN ?_
 refine kS ?_
 refine kSR ?_
 refine kC 1 [2,3] ?_
 refine kEN ?_
 refine kb 0 ?_
 refine kSR ?_
 refine kC 2 [2,3,4] ?_
 refine kEN ?_
 refine kBJ 4 h (fun h0 => ?_) (fun h1 => ?_)
 ·refine kT ?_
  refine kSR ?_
  refine kC 1 [2] ?_
  refine kEN ?_
  refine kX ?_
  refine PJ.blockRet ?_
  refine PJ.passRet ?_
  obtain rfl := oi h0
  exact kZ hFn hFH hFD
 ·refine kF ?_
  refine kSR ?_
  refine kC 2 [2,3,6] ?_
  refine kEN ?_
  refine cT 6 h1 (fun h2 => ?_)
  refine kF ?_
  refine kSR ?_
  refine kC 2 [2,8] ?_
  refine kEN ?_
  refine cT 8 h2 (fun h3 => ?_)
  refine kF ?_
  refine kK ?_
  refine PJ.blockNormal ?_
  refine PJ.next ?_
  refine kSR ?_
  refine kC 1 [2] ?_
  refine kEN ?_
  refine kX ?_
  obtain rfl := oi h3
  exact kZ hFn hFH hFD
def utf_Is (x0 : Int) : Option (Bool) :=
 (Option.bind (bif (decide (x0 ≥ 0)) then (bif (decide (x0 ≤ 1114111)) then (bif (decide (x0 < 55296)) then (some ()) else none) else none) else none) fun (s0 : Unit) => (some true))
theorem utf_Is_ok {x0 : Int} {r : Bool} (h : utf_Is x0 = some r) : SC Tryz.prog 150 [iM x0] [] (.bool r) [] := by
 refine kFn (fn := Tryz.f150) (fun F hFn hFH hFD => ?_)
 unfold utf_Is at h
 refine kSR ?_
 refine kC 1 [0,2] ?_
 refine kEN ?_
 obtain ⟨s0, hy0, h0⟩ := bindS h
 refine K.cutN (by kernel_rfl) (fun (s0 : Unit) => ([(2, .bool true)], [])) s0 ?_ ?_
 ·refine kR ?_
  refine kC 3 [0,2,5] ?_
  refine cFR 5 hy0 (fun h1 => ?_)
  refine kC 4 [0,2,9] ?_
  refine cFR 9 h1 (fun h2 => ?_)
  refine kC 3 [0,2,9,12] ?_
  refine cFR 12 h2 (fun h3 => ?_)
  refine kC 5 [2] ?_
  refine kE ?_
  obtain rfl := oi h3
  exact kN [2]
 ·refine kX ?_
  obtain rfl := oi h0
  exact kZ hFn hFH hFD
def utf_Size (x0 : Int) : Option (Int) :=
 (Option.bind (utf_Is x0) fun y0 => (bif (!y0) then none else (bif (decide (x0 < 128)) then (some 1) else (bif (decide (x0 < 2048)) then (some 2) else none))))
theorem utf_Size_ok {x0 : Int} {r : Int} (h : utf_Size x0 = some r) : SC Tryz.prog 160 [iM x0] [] (iL r) [] := by
 refine kFn (fn := Tryz.f160) (fun F hFn hFH hFD => ?_)
 unfold utf_Size at h
 refine kSR ?_
 refine kC 1 [0,2] ?_
 refine kEN ?_
 refine kS ?_
 refine kb 0 ?_
 refine kSR ?_
 refine kC 1 [0,2,4] ?_
 obtain ⟨y0, hy0, h0⟩ := bindS h
 refine kA 5 (utf_Is_ok hy0) ?_
 refine kC 2 [0,2,3] ?_
 refine kEN ?_
 refine cT 3 h0 (fun h1 => ?_)
 refine kF ?_
 refine kSR ?_
 refine kC 3 [0,2,7] ?_
 refine kEN ?_
 refine kBJ 7 h1 (fun h2 => ?_) (fun h3 => ?_)
 ·refine kT ?_
  refine kSR ?_
  refine kC 1 [2] ?_
  refine kEN ?_
  refine kX ?_
  refine PJ.blockRet ?_
  refine PJ.passRet ?_
  obtain rfl := oi h2
  exact kZ hFn hFH hFD
 ·refine kF ?_
  refine kSR ?_
  refine kC 3 [0,2,10] ?_
  refine kEN ?_
  refine cF 10 h3 (fun h4 => ?_)
  refine kT ?_
  refine kSR ?_
  refine kC 1 [2] ?_
  refine kEN ?_
  refine kX ?_
  refine PJ.blockRet ?_
  refine PJ.passRet ?_
  obtain rfl := oi h4
  exact kZ hFn hFH hFD
def utf_first (x0 : List Int) : Option (Int × Int) :=
 (bif inR 0 x0.length then (Option.bind (utf_promised (nth x0 0)) fun y0 => (Option.bind (Option.bind (bif (decide (y0 = 0)) then none else (some ())) fun (s2 : Unit) => (bif (decide (y0 > (x0.length : Int))) then none else (some ()))) fun (s3 : Unit) => (bif inR 0 x0.length then (Option.bind (utf_mark y0) fun y1 => (Option.bind (bif inS 1 y0 x0.length then (loopN (fun (s0 : Int × Int) => (bif (decide (s0.2 < ((cut x0 1 y0).length : Int))) then (bif inR s0.2 (cut x0 1 y0).length then (bif (decide (¬ ((bits .andNot .u8 (nth (cut x0 1 y0) s0.2) 63)) = 128)) then none else (some (.inl ((bits .or .i32 (IntKind.wrap .i32 (s0.1 * 64)) ((IntKind.wrap .i32 ((bits .and .u8 (nth (cut x0 1 y0) s0.2) 63))))), (IntKind.wrap .i64 (s0.2 + 1)))))) else none) else (some (.inr s0.1)))) big ((IntKind.wrap .i32 (bits .andNot .u8 (nth x0 0) y1)), 0)) else none) fun (s1 : Int) => (Option.bind (utf_Size s1) fun y2 => (bif (decide (¬ y2 = y0)) then none else (some (s1, y0)))))) else none))) else none)
theorem utf_first_ok {x0 : List Int} {r : Int × Int} (h : utf_first x0 = some r) : SC Tryz.prog 133 [lB x0] [] (.tup [iM r.1, iL r.2]) [] := by
 refine kFn (fn := Tryz.f133) (fun F hFn hFH hFD => ?_)
 unfold utf_first at h
 refine kSR ?_
 refine kC 2 [0,2,3] ?_
 refine kEN ?_
 refine kSR ?_
 refine kC 1 [0,2,3,8] ?_
 obtain ⟨hm, h0⟩ := asrt h
 refine kI 9 (encI_len .u8) hm ?_
 refine kC 1 [0,2,3,10] ?_
 obtain ⟨y0, hy0, h1⟩ := bindS h0
 refine kA 11 (utf_promised_ok hy0) ?_
 refine kC 1 [0,2,3,4] ?_
 refine kEN ?_
 obtain ⟨s3, hy1, h2⟩ := bindS h1
 refine K.cutN (by kernel_rfl) (fun (s3 : Unit) => ([(0, lB x0), (2, iM 0), (3, iL 0), (4, iL y0)], [])) s3 ?_ ?_
 ·obtain ⟨s2, hy2, h3⟩ := bindS hy1
  refine K.cutN (by kernel_rfl) (fun (s2 : Unit) => ([(0, lB x0), (2, iM 0), (3, iL 0), (4, iL y0), (19, .bool ((decide (y0 > (x0.length : Int)))))], [])) s2 ?_ ?_
  ·refine kR ?_
   refine kC 3 [0,2,3,4,14] ?_
   refine cTR 14 hy2 (fun h4 => ?_)
   refine kC 5 [0,2,3,4,19] ?_
   refine kE ?_
   obtain rfl := oi h4
   exact kN [0, 2, 3, 4, 19]
  ·refine cT 19 h3 (fun h5 => ?_)
   refine kF ?_
   refine kK ?_
   obtain rfl := oi h5
   exact kN [0, 2, 3, 4]
 ·refine kS ?_
  refine J.keep [0, 2, 3, 4] (L2 := [(0, lB x0), (2, iM 0), (3, iL 0), (4, iL y0)]) (by kernel_rfl) ?_
  refine K.draw (by kernel_rfl) (by kernel_rfl) (by kernel_rfl) (H2 := [.res]) (by kernel_rfl) (n := 0) (by kernel_rfl) ?_
  refine kD 1 ?_
  obtain ⟨hm, h6⟩ := asrt h2
  refine kJ 21 (tr2 := [([], []), ([], [])]) (encI_len .u8) hm ?_
  refine kD 2 ?_
  obtain ⟨y1, hy3, h7⟩ := bindS h6
  refine RJ.call0 (d := (some 24)) (f := 159) (args := [iL y0]) (v := .int .u8 y1) (tr2 := [([], []), ([], []), ([], []), ([], []), ([], [0, 1])]) (by kernel_rfl) (by kernel_rfl) (.cons (Le.refl _) .nil) (utf_mark_ok hy3) (by kernel_rfl) ?_
  refine kD 3 ?_
  refine kEN ?_
  obtain ⟨s1, hy4, h8⟩ := bindS h7
  refine K.cutN (by kernel_rfl) (fun (s1 : Int) => ([(2, iM 0), (3, iL 0), (4, iL y0), (5, iM s1)], [])) s1 ?_ ?_
  ·refine kSR ?_
   refine kC 2 [2,3,4,5,27,28] ?_
   obtain ⟨hm, h9⟩ := asrt hy4
   refine RJ.rel (d := (some 29)) (ef := ⟨.lst ((y0 : Int).toNat - (1 : Int).toNat) 1 (((x0.flatMap (encI .u8)).take ((y0 : Int).toNat * 1)).drop ((1 : Int).toNat * 1)), [], []⟩) (ef' := ⟨.lst (cut x0 1 y0).length 1 ((cut x0 1 y0).flatMap (encI .u8)), [], []⟩) (c := inS 1 y0 x0.length) (tr2 := []) (H2 := [.res]) (by kernel_rfl) hm (fun hc => N.slice (encI_len .u8) hc) (by kernel_rfl) ?_
   refine kC 2 [2,3,4,5,29,30,31] ?_
   refine kEN ?_
   refine kb 0 ?_
   refine J.wk (Wk.sel (L2 := [(2, iM 0), (3, iL 0), (4, iL y0), (5, iM ((IntKind.wrap .i32 (bits .andNot .u8 (nth x0 0) y1)))), (29, lB (cut x0 1 y0)), (30, iL ((cut x0 1 y0).length : Int)), (31, iL 0)]) (H2 := []) 0 (by rw [hFH]; rfl) hFD [] (by kernel_rfl) (by kernel_rfl) (by decide) (by kernel_rfl) (by kernel_rfl) (by kernel_rfl) (by kernel_rfl)) ?_
   refine kl (fun (s0 : Int × Int) => ([(2, iM 0), (3, iL 0), (4, iL y0), (5, iM s0.1), (29, lB (cut x0 1 y0)), (30, iL ((cut x0 1 y0).length : Int)), (31, iL s0.2)], [])) h9 [2, 3, 4, 5, 29, 30, 31] (fun s0 x99 hs0 => ?_)
   refine kSR ?_
   refine kC 1 [2,3,4,5,29,30,31,32] ?_
   refine kEN ?_
   refine kS ?_
   refine kBJ 32 hs0 (fun h10 => ?_) (fun h11 => ?_)
   ·refine kT ?_
    refine kK ?_
    refine PJ.next ?_
    refine kS ?_
    refine kb 1 ?_
    refine kSR ?_
    obtain ⟨hm, h12⟩ := asrt h10
    refine kI 33 (encI_len .u8) hm ?_
    refine kC 2 [2,3,4,5,7,29,30,31] ?_
    refine kEN ?_
    refine kS ?_
    refine kSR ?_
    refine kC 3 [2,3,4,5,7,29,30,31,37] ?_
    refine kEN ?_
    refine cT 37 h12 (fun h13 => ?_)
    refine kF ?_
    refine kK ?_
    refine PJ.next ?_
    refine kR ?_
    refine kC 7 [2,3,4,5,29,30,31] ?_
    refine kE ?_
    refine PJ.blockNormal ?_
    refine PJ.next ?_
    refine kR ?_
    refine kC 2 [2,3,4,5,29,30,31] ?_
    refine kE ?_
    obtain rfl := oi h13
    exact kLN [2, 3, 4, 5, 29, 30, 31]
   ·refine kF ?_
    refine K.exit 0 (by kernel_rfl) ?_
    refine PJ.passExit ?_
    obtain rfl := oi h11
    refine PJ.loopOut (fun e => nomatch e) (fun he0 => ?_)
    have h14 := congrArg some he0
    refine PJ.blockOut ?_
    obtain rfl := oi h14
    exact kN [2, 3, 4, 5]
  ·refine kS ?_
   refine kSR ?_
   refine kC 1 [2,3,4,5,45] ?_
   obtain ⟨y2, hy5, h15⟩ := bindS h8
   refine kA 46 (utf_Size_ok hy5) ?_
   refine kC 2 [2,3,4,5,48] ?_
   refine kEN ?_
   refine cT 48 h15 (fun h16 => ?_)
   refine kF ?_
   refine kK ?_
   refine PJ.next ?_
   refine kSR ?_
   refine kC 4 [2,3] ?_
   refine kEN ?_
   refine kX ?_
   obtain rfl := oi h16
   exact kZ hFn hFH hFD
def utf_Decode (x0 : List Int) : Option ((List Int) × Int × Int) :=
 (Option.bind (loopN (fun (s0 : Int × (List Int)) => (bif (decide (s0.1 < (x0.length : Int))) then (bif inS s0.1 (x0.length : Int) x0.length then (Option.bind (utf_first (cut x0 s0.1 (x0.length : Int))) fun y0 => (bif (decide (y0.2 = 0)) then none else (bif room (s0.2.length + ([y0.1] : List Int).length) then (some (.inl ((IntKind.wrap .i64 (s0.1 + y0.2)), (s0.2 ++ ([y0.1] : List Int))))) else none))) else none) else (some (.inr s0.2)))) big (0, ([] : List Int))) fun (s1 : (List Int)) => (some (s1, 0, 0)))
theorem utf_Decode_ok {x0 : List Int} {r : (List Int) × Int × Int} (h : utf_Decode x0 = some r) : SC Tryz.prog 102 [lB x0] [] (.tup [lR r.1, iL r.2.1, iL r.2.2]) [] := by
 refine kFn (fn := Tryz.f102) (fun F hFn hFH hFD => ?_)
 unfold utf_Decode at h
 refine kSR ?_
 refine kC 3 [0,2,3,4] ?_
 refine kEN ?_
 refine kSR ?_
 refine kC 1 [0,2,3,4,5] ?_
 refine kEN ?_
 obtain ⟨s1, hy0, h0⟩ := bindS h
 refine K.cutN (by kernel_rfl) (fun (s1 : (List Int)) => ([(2, .nl), (3, iL 0), (4, iL 0), (5, .vc 0)], [vecL (encI .i32) 1 21 s1])) s1 ?_ ?_
 ·refine kSR ?_
  refine kC 1 [0,2,3,4,5,6] ?_
  refine kEN ?_
  refine kb 0 ?_
  refine J.wk (Wk.viv 5 1 21 (by kernel_rfl)) ?_
  refine kl (fun (s0 : Int × (List Int)) => ([(0, lB x0), (2, .nl), (3, iL 0), (4, iL 0), (5, .vc 0), (6, iL s0.1)], [vecL (encI .i32) 1 21 s0.2])) hy0 [0, 2, 3, 4, 5, 6] (fun s0 x76 hs0 => ?_)
  refine kS ?_
  refine kSR ?_
  refine kC 4 [0,2,3,4,5,6,12] ?_
  refine kEN ?_
  refine kBJ 12 hs0 (fun h1 => ?_) (fun h2 => ?_)
  ·refine kT ?_
   refine kK ?_
   refine PJ.next ?_
   refine kb 1 ?_
   refine kSR ?_
   refine kC 2 [0,2,3,4,5,6,14,15] ?_
   obtain ⟨hm, h3⟩ := asrt h1
   refine RJ.rel (d := (some 16)) (ef := ⟨.lst (((x0.length : Int) : Int).toNat - (s0.1 : Int).toNat) 1 (((x0.flatMap (encI .u8)).take (((x0.length : Int) : Int).toNat * 1)).drop ((s0.1 : Int).toNat * 1)), [], []⟩) (ef' := ⟨.lst (cut x0 s0.1 (x0.length : Int)).length 1 ((cut x0 s0.1 (x0.length : Int)).flatMap (encI .u8)), [], []⟩) (c := inS s0.1 (x0.length : Int) x0.length) (tr2 := []) (H2 := [vecL (encI .i32) 1 21 s0.2]) (by kernel_rfl) hm (fun hc => N.slice (encI_len .u8) hc) (by kernel_rfl) ?_
   obtain ⟨y0, hy1, h4⟩ := bindS h3
   refine kA 17 (utf_first_ok hy1) ?_
   refine kC 5 [0,2,3,4,5,6,7,8] ?_
   refine kEN ?_
   refine kS ?_
   refine kSR ?_
   refine kC 2 [0,2,3,4,5,6,7,8,21] ?_
   refine kEN ?_
   refine cT 21 h4 (fun h5 => ?_)
   refine kF ?_
   refine kK ?_
   refine PJ.next ?_
   refine kSR ?_
   refine kC 3 [0,2,3,4,5,6,8,23,25] ?_
   obtain ⟨hm, h6⟩ := asrt h5
   refine RJ.rel (d := (some 26)) (ef := ⟨.vc 2, [0, 1], [(0, .gone), (2, .vec (s0.2.length + ([y0.1] : List Int).length) 1 21 (s0.2.flatMap (encI .i32) ++ ([y0.1] : List Int).flatMap (encI .i32)))]⟩) (ef' := ⟨.vc 2, [0, 1], [(0, .gone), (2, vecL (encI .i32) 1 21 (s0.2 ++ ([y0.1] : List Int)))]⟩) (c := room (s0.2.length + ([y0.1] : List Int).length)) (tr2 := []) (H2 := [.gone, vecL (encI .i32) 1 21 ([y0.1] : List Int), vecL (encI .i32) 1 21 (s0.2 ++ ([y0.1] : List Int))]) (by kernel_rfl) hm (fun hc => N.app) (by kernel_rfl) ?_
   refine kC 1 [0,2,3,4,5,6,8] ?_
   refine kEN ?_
   refine kR ?_
   refine kC 4 [0,2,3,4,5,6] ?_
   refine kE ?_
   refine PJ.blockNormal ?_
   obtain rfl := oi h6
   refine kW (L2 := [(0, lB x0), (2, .nl), (3, iL 0), (4, iL 0), (5, .vc 0), (6, iL (IntKind.wrap .i64 (s0.1 + y0.2)))]) (H2 := [vecL (encI .i32) 1 21 (s0.2 ++ ([y0.1] : List Int))]) hFH hFD [2] ?_
   exact kLN [0, 2, 3, 4, 5, 6]
  ·refine kF ?_
   refine K.exit 0 (by kernel_rfl) ?_
   refine PJ.passExit ?_
   obtain rfl := oi h2
   refine PJ.loopOut (fun e => nomatch e) (fun he0 => ?_)
   have h7 := congrArg some he0
   refine PJ.blockOut ?_
   obtain rfl := oi h7
   exact kN [2, 3, 4, 5]
 ·refine kSR ?_
  refine kC 4 [2,3,4] ?_
  refine kEN ?_
  refine kX ?_
  obtain rfl := oi h0
  refine PJ.wk (Wk.freeze 0 (n := s1.length) (k := 1) (e := 21) (cs := s1.flatMap (encI .i32)) (by kernel_rfl)) ?_
  exact kZ hFn hFH hFD
def pat_signs_s0  : Option (Unit) :=
 (some ())
theorem pat_signs_s0_ok  {r : Unit} (h : pat_signs_s0 = some r) : SC Tryz.prog 142 [] [] (.mp 0) [.map [(iM 45, iL 1), (iM 43, iL 2), (iM 37, iL 3), (iM 164, iL 4)]] := by
 refine kFn (fn := Tryz.f142) (fun F hFn hFH hFD => ?_)
 unfold pat_signs_s0 at h
 refine kSR ?_
 refine kC 1 [] ?_
 refine kEN ?_
 refine kSR ?_
 refine kC 7 [0] ?_
 refine kEN ?_
 refine kX ?_
 obtain rfl := oi h
 exact kV [0] hFn hFH hFD (v1 := .mp 0)
def pat_reader__is_s0 (x0 : Int) (x1 : Int) (x2 : List Int) (x3 : Int) (x4 : Int) (x5 : Int) (x6 : Int) (x7 : Int) (x8 : Int) : Option (Bool) :=
 (Option.bind (bif (decide ((IntKind.wrap .i64 (x3 + x1)) < (x2.length : Int))) then (bif inR (IntKind.wrap .i64 (x3 + x1)) x2.length then (some ((decide (((nth x2 (IntKind.wrap .i64 (x3 + x1)))) = x0)))) else none) else (some false)) fun (s0 : Bool) => (some s0))
theorem pat_reader__is_s0_ok {x0 : Int} {x1 : Int} {x2 : List Int} {x3 : Int} {x4 : Int} {x5 : Int} {x6 : Int} {x7 : Int} {x8 : Int} {r : Bool} (h : pat_reader__is_s0 x0 x1 x2 x3 x4 x5 x6 x7 x8 = some r) : SC Tryz.prog 181 [.ptr 0 0, iM x0, iL x1] [.box [lR x2, .mp 1, iL x3, iL x4], .map [(iM 45, iL x5), (iM 43, iL x6), (iM 37, iL x7), (iM 164, iL x8)]] (.bool r) [.box [lR x2, .mp 1, iL x3, iL x4], .map [(iM 45, iL x5), (iM 43, iL x6), (iM 37, iL x7), (iM 164, iL x8)]] := by
 refine kFn (fn := Tryz.f181) (fun F hFn hFH hFD => ?_)
 unfold pat_reader__is_s0 at h
 refine kSR ?_
 refine kC 1 [0,1,2,6] ?_
 refine kEN ?_
 obtain ⟨s0, hy0, h0⟩ := bindS h
 refine K.cutN (by kernel_rfl) (fun (s0 : Bool) => ([(6, .bool s0)], [.box [lR x2, .mp 1, iL x3, iL x4], .map [(iM 45, iL x5), (iM 43, iL x6), (iM 37, iL x7), (iM 164, iL x8)]])) s0 ?_ ?_
 ·refine J.keep [0, 1, 2, 6] (L2 := [(0, .ptr 0 0), (1, iM x0), (2, iL x1), (6, .bool false)]) (by kernel_rfl) ?_
  refine K.draw (by kernel_rfl) (by kernel_rfl) (by kernel_rfl) (H2 := [.box [lR x2, .mp 1, iL x3, iL x4], .map [(iM 45, iL x5), (iM 43, iL x6), (iM 37, iL x7), (iM 164, iL x8)]]) (by kernel_rfl) (n := 2) (by kernel_rfl) ?_
  refine kD 13 ?_
  refine kB 19 hy0 (fun h1 => ?_) (fun h2 => ?_)
  ·refine kD 10 ?_
   obtain ⟨hm, h3⟩ := asrt h1
   refine kJ 30 (tr2 := [([], []), ([], []), ([], []), ([0, 1], []), ([], []), ([], []), ([], []), ([], []), ([], []), ([0, 1], []), ([], []), ([], []), ([], []), ([], []), ([], []), ([], []), ([0, 1], []), ([], []), ([], []), ([], []), ([0, 1], []), ([], []), ([], []), ([], [])]) (encI_len .i32) hm ?_
   refine kD 5 ?_
   refine kE ?_
   obtain rfl := oi h3
   exact kN [6]
  ·refine kD 16 ?_
   refine kE ?_
   obtain rfl := oi h2
   exact kN [6]
 ·refine kX ?_
  obtain rfl := oi h0
  exact kV [0, 1] hFn hFH hFD (v1 := .bool s0)
def pat_reader__eat_s0 (x0 : Int) (x1 : List Int) (x2 : Int) (x3 : Int) (x4 : Int) (x5 : Int) (x6 : Int) (x7 : Int) : Option (Bool × Int) :=
 (Option.bind (pat_reader__is_s0 x0 0 x1 x2 x3 x4 x5 x6 x7) fun y0 => (bif (!y0) then (some (false, x2)) else (some (true, (IntKind.wrap .i64 (x2 + 1))))))
theorem pat_reader__eat_s0_ok {x0 : Int} {x1 : List Int} {x2 : Int} {x3 : Int} {x4 : Int} {x5 : Int} {x6 : Int} {x7 : Int} {r : Bool × Int} (h : pat_reader__eat_s0 x0 x1 x2 x3 x4 x5 x6 x7 = some r) : SC Tryz.prog 165 [.ptr 0 0, iM x0] [.box [lR x1, .mp 1, iL x2, iL x3], .map [(iM 45, iL x4), (iM 43, iL x5), (iM 37, iL x6), (iM 164, iL x7)]] (.bool r.1) [.box [lR x1, .mp 1, iL r.2, iL x3], .map [(iM 45, iL x4), (iM 43, iL x5), (iM 37, iL x6), (iM 164, iL x7)]] := by
 refine kFn (fn := Tryz.f165) (fun F hFn hFH hFD => ?_)
 unfold pat_reader__eat_s0 at h
 refine kSR ?_
 refine kC 1 [0,1,4] ?_
 refine kEN ?_
 refine kS ?_
 refine kSR ?_
 refine kC 2 [0,4,5,6] ?_
 obtain ⟨y0, hy0, h0⟩ := bindS h
 refine kCG (some 7) (args := [.ptr 0 0, iM x0, iL 0]) (v := .bool y0) (H2 := [.box [lR x1, .mp 1, iL x2, iL x3], .map [(iM 45, iL x4), (iM 43, iL x5), (iM 37, iL x6), (iM 164, iL x7)]]) [0, 1] (pat_reader__is_s0_ok hy0) ?_
 refine kC 1 [0,4,8] ?_
 refine kEN ?_
 refine kBJ 8 h0 (fun h1 => ?_) (fun h2 => ?_)
 ·refine kT ?_
  refine kSR ?_
  refine kC 1 [0,4] ?_
  refine kEN ?_
  refine kX ?_
  refine PJ.passRet ?_
  obtain rfl := oi h1
  exact kV [0, 1] hFn hFH hFD (v1 := .bool false)
 ·refine kF ?_
  refine kK ?_
  refine PJ.next ?_
  refine kSR ?_
  refine kC 8 [4] ?_
  refine kEN ?_
  refine kSR ?_
  refine kC 1 [4] ?_
  refine kEN ?_
  refine kX ?_
  obtain rfl := oi h2
  exact kV [0, 1] hFn hFH hFD (v1 := .bool true)
def pat_reader__pad_s0 (x0 : Int) (x1 : List Int) (x2 : Int) (x3 : Int) (x4 : Int) (x5 : Int) (x6 : Int) (x7 : Int) (x8 : Bool) (x9 : Int) (x10 : Int) (x11 : Int) (x12 : Int) (x13 : Int) (x14 : Int) (x15 : Int) (x16 : Int) (x17 : Int) (x18 : Bool) (x19 : Int) (x20 : Int) : Option (Int) :=
 (Option.bind (bif (decide (¬ x20 = 0)) then none else (Option.bind (pat_reader__eat_s0 42 x1 x2 x3 x4 x5 x6 x7) fun y0 => (some ((!y0.1), y0.2)))) fun (s0 : Bool × Int) => (bif s0.1 then (some s0.2) else none))
theorem pat_reader__pad_s0_ok {x0 : Int} {x1 : List Int} {x2 : Int} {x3 : Int} {x4 : Int} {x5 : Int} {x6 : Int} {x7 : Int} {x8 : Bool} {x9 : Int} {x10 : Int} {x11 : Int} {x12 : Int} {x13 : Int} {x14 : Int} {x15 : Int} {x16 : Int} {x17 : Int} {x18 : Bool} {x19 : Int} {x20 : Int} {r : Int} (h : pat_reader__pad_s0 x0 x1 x2 x3 x4 x5 x6 x7 x8 x9 x10 x11 x12 x13 x14 x15 x16 x17 x18 x19 x20 = some r) : SC Tryz.prog 162 [.ptr 0 0, .ptr 2 0, iL x0] [.box [lR x1, .mp 1, iL x2, iL x3], .map [(iM 45, iL x4), (iM 43, iL x5), (iM 37, iL x6), (iM 164, iL x7)], .box [.nl, .nl, .nl, .nl, .bool x8, iL x9, iL x10, iL x11, iL x12, iL x13, iL x14, iL x15, iL x16, iL x17, .bool x18, iM x19, iL x20]] (.tup []) [.box [lR x1, .mp 1, iL r, iL x3], .map [(iM 45, iL x4), (iM 43, iL x5), (iM 37, iL x6), (iM 164, iL x7)], .box [.nl, .nl, .nl, .nl, .bool x8, iL x9, iL x10, iL x11, iL x12, iL x13, iL x14, iL x15, iL x16, iL x17, .bool x18, iM x19, iL x20]] := by
 refine kFn (fn := Tryz.f162) (fun F hFn hFH hFD => ?_)
 unfold pat_reader__pad_s0 at h
 refine kS ?_
 obtain ⟨s0, hy0, h0⟩ := bindS h
 refine K.cutN (by kernel_rfl) (fun (s0 : Bool × Int) => ([(0, .ptr 0 0), (1, .ptr 2 0), (2, iL x0), (15, .bool s0.1)], [.box [lR x1, .mp 1, iL s0.2, iL x3], .map [(iM 45, iL x4), (iM 43, iL x5), (iM 37, iL x6), (iM 164, iL x7)], .box [.nl, .nl, .nl, .nl, .bool x8, iL x9, iL x10, iL x11, iL x12, iL x13, iL x14, iL x15, iL x16, iL x17, .bool x18, iM x19, iL x20]])) s0 ?_ ?_
 ·refine kR ?_
  refine kC 6 [0,1,2,11] ?_
  refine cTR 11 hy0 (fun h1 => ?_)
  refine kC 1 [0,1,2,11,12] ?_
  obtain ⟨y0, hy1, h2⟩ := bindS h1
  refine kCG (some 13) (args := [.ptr 0 0, iM 42]) (v := .bool y0.1) (H2 := [.box [lR x1, .mp 1, iL y0.2, iL x3], .map [(iM 45, iL x4), (iM 43, iL x5), (iM 37, iL x6), (iM 164, iL x7)], .box [.nl, .nl, .nl, .nl, .bool x8, iL x9, iL x10, iL x11, iL x12, iL x13, iL x14, iL x15, iL x16, iL x17, .bool x18, iM x19, iL x20]]) [0, 1] (pat_reader__eat_s0_ok hy1) ?_
  refine kC 2 [0,1,2,15] ?_
  refine kE ?_
  obtain rfl := oi h2
  exact kN [0, 1, 2, 15]
 ·refine cF 15 h0 (fun h3 => ?_)
  refine kT ?_
  refine kX ?_
  refine PJ.passRet ?_
  obtain rfl := oi h3
  exact kV [0, 1, 2] hFn hFH hFD (v1 := .tup [])
def pat_special (x0 : Int) : Option (Bool) :=
 (Option.bind (Option.bind (bif (decide (x0 = 35)) then (some true) else (bif (decide (x0 = 64)) then none else (bif (decide (x0 = 44)) then none else (bif (decide (x0 = 46)) then none else (bif (decide (x0 = 59)) then none else (bif (decide (x0 = 42)) then none else (bif (decide (x0 = 37)) then none else (bif (decide (x0 = 45)) then none else (bif (decide (x0 = 43)) then none else (bif (decide (x0 = 39)) then none else (bif (decide (x0 = 69)) then none else (some (decide (x0 = 164)))))))))))))) fun (s0 : Bool) => (bif s0 then (some (.inr true)) else (some (.inl ())))) (joinX fun (s2 : Unit) => (Option.bind (bif (decide (x0 ≥ 48)) then (some ()) else none) fun (s1 : Unit) => (some (decide (x0 ≤ 57))))))
theorem pat_special_ok {x0 : Int} {r : Bool} (h : pat_special x0 = some r) : SC Tryz.prog 183 [iM x0] [] (.bool r) [] := by
 refine kFn (fn := Tryz.f183) (fun F hFn hFH hFD => ?_)
 unfold pat_special at h
 refine kSR ?_
 refine kC 1 [0,2] ?_
 refine kEN ?_
 obtain ⟨y0, hy0, h0⟩ := bindS h
 refine K.cutX (by kernel_rfl) (fun (s2 : Unit) => ([(0, iM x0), (2, .bool false)], [])) y0 ?_ (fun s2 hs => ?_)
 ·refine kSR ?_
  refine kC 1 [0,2,3] ?_
  refine kEN ?_
  refine kb 0 ?_
  obtain ⟨s0, hy1, h1⟩ := bindS hy0
  refine K.cutN (by kernel_rfl) (fun (s0 : Bool) => ([(0, iM x0), (2, .bool false), (4, .bool s0)], [])) s0 ?_ ?_
  ·refine kSR ?_
   refine kC 2 [0,2,3,4] ?_
   refine kEN ?_
   refine kBJ 4 hy1 (fun h2 => ?_) (fun h3 => ?_)
   ·refine kT ?_
    refine kK ?_
    obtain rfl := oi h2
    exact kN [0, 2, 4]
   ·refine kF ?_
    refine kSR ?_
    refine kC 2 [0,2,3,4] ?_
    refine kEN ?_
    refine cT 4 h3 (fun h4 => ?_)
    refine kF ?_
    refine kSR ?_
    refine kC 2 [0,2,3,4] ?_
    refine kEN ?_
    refine cT 4 h4 (fun h5 => ?_)
    refine kF ?_
    refine kSR ?_
    refine kC 2 [0,2,3,4] ?_
    refine kEN ?_
    refine cT 4 h5 (fun h6 => ?_)
    refine kF ?_
    refine kSR ?_
    refine kC 2 [0,2,3,4] ?_
    refine kEN ?_
    refine cT 4 h6 (fun h7 => ?_)
    refine kF ?_
    refine kSR ?_
    refine kC 2 [0,2,3,4] ?_
    refine kEN ?_
    refine cT 4 h7 (fun h8 => ?_)
    refine kF ?_
    refine kSR ?_
    refine RJ.seg 2 [0, 2, 3, 4] (L2 := [(0, iM x0), (2, .bool false), (3, iM x0), (4, .bool (decide (x0 = 37)))]) (H2 := []) (by kernel_rfl) ?_
    refine kEN ?_
    refine cT 4 h8 (fun h9 => ?_)
    refine kF ?_
    refine kSR ?_
    refine kC 2 [0,2,3,4] ?_
    refine kEN ?_
    refine cT 4 h9 (fun h10 => ?_)
    refine kF ?_
    refine kSR ?_
    refine kC 2 [0,2,3,4] ?_
    refine kEN ?_
    refine cT 4 h10 (fun h11 => ?_)
    refine kF ?_
    refine kSR ?_
    refine kC 2 [0,2,3,4] ?_
    refine kEN ?_
    refine cT 4 h11 (fun h12 => ?_)
    refine kF ?_
    refine kSR ?_
    refine kC 2 [0,2,3,4] ?_
    refine kEN ?_
    refine cT 4 h12 (fun h13 => ?_)
    refine kF ?_
    refine kR ?_
    refine kC 2 [0,2,4] ?_
    refine kE ?_
    obtain rfl := oi h13
    exact kN [0, 2, 4]
  ·refine kBJ 4 h1 (fun h14 => ?_) (fun h15 => ?_)
   ·refine kT ?_
    refine kSR ?_
    refine kC 1 [0,2] ?_
    refine kEN ?_
    refine kX ?_
    refine PJ.blockRet ?_
    obtain rfl := oi h14
    have h16 := joinX_inr h0
    refine PJ.cutXr (fun e => nomatch e) ?_
    obtain rfl := oi h16
    exact kZ hFn hFH hFD
   ·refine kF ?_
    refine kK ?_
    refine PJ.blockNormal ?_
    obtain rfl := oi h15
    exact kXl [0, 2]
 ·subst hs
  have h17 := joinX_inl h0
  obtain ⟨s1, hy2, h18⟩ := bindS h17
  refine K.cutN (by kernel_rfl) (fun (s1 : Unit) => ([(2, .bool (decide (x0 ≤ 57)))], [])) s1 ?_ ?_
  ·refine kR ?_
   refine kC 3 [0,2,19] ?_
   refine cFR 19 hy2 (fun h19 => ?_)
   refine kC 4 [2] ?_
   refine kE ?_
   obtain rfl := oi h19
   exact kN [2]
  ·refine kX ?_
   obtain rfl := oi h18
   exact kZ hFn hFH hFD
def pat_reader__affix_s0 (x0 : List Int) (x1 : Int) (x2 : Int) (x3 : Int) (x4 : Int) (x5 : Int) (x6 : Int) : Option ((List St106) × Int) :=
 (Option.bind (loopN (fun (s0 : Int × (List St106)) => (bif (decide (s0.1 < (x0.length : Int))) then (bif inR s0.1 x0.length then (bif (decide ((nth x0 s0.1) = 45)) then (Option.bind (bif room (s0.2.length + ([(⟨x3, 0⟩ : St106)] : List St106).length) then (some ()) else none) fun (s2 : Unit) => (some (.inl ((IntKind.wrap .i64 (s0.1 + 1)), (s0.2 ++ ([(⟨x3, 0⟩ : St106)] : List St106)))))) else (bif (decide ((nth x0 s0.1) = 43)) then (Option.bind (bif room (s0.2.length + ([(⟨x4, 0⟩ : St106)] : List St106).length) then (some ()) else none) fun (s3 : Unit) => (some (.inl ((IntKind.wrap .i64 (s0.1 + 1)), (s0.2 ++ ([(⟨x4, 0⟩ : St106)] : List St106)))))) else (bif (decide ((nth x0 s0.1) = 37)) then (Option.bind (bif room (s0.2.length + ([(⟨x5, 0⟩ : St106)] : List St106).length) then (some ()) else none) fun (s4 : Unit) => (some (.inl ((IntKind.wrap .i64 (s0.1 + 1)), (s0.2 ++ ([(⟨x5, 0⟩ : St106)] : List St106)))))) else (bif (decide ((nth x0 s0.1) = 164)) then (Option.bind (bif room (s0.2.length + ([(⟨x6, 0⟩ : St106)] : List St106).length) then (some ()) else none) fun (s5 : Unit) => (some (.inl ((IntKind.wrap .i64 (s0.1 + 1)), (s0.2 ++ ([(⟨x6, 0⟩ : St106)] : List St106)))))) else (Option.bind (Option.bind (pat_reader__is_s0 39 0 x0 s0.1 x2 x3 x4 x5 x6) fun y0 => (bif y0 then none else (Option.bind (pat_special (nth x0 s0.1)) fun y1 => (bif y1 then (some (.inr (.inr (.inr (s0.2, s0.1))))) else (bif room (s0.2.length + (([(⟨0, (nth x0 s0.1)⟩ : St106)] : List St106)).length) then (some (.inl ())) else none))))) (joinX fun (s6 : Unit) => (some (.inl ((IntKind.wrap .i64 (s0.1 + 1)), (s0.2 ++ (([(⟨0, (nth x0 s0.1)⟩ : St106)] : List St106)))))))))))) else none) else (some (.inr (.inl (s0.1, s0.2)))))) big (x1, ([] : List St106))) (joinX fun (s1 : Int × (List St106)) => (some (s1.2, s1.1))))
theorem pat_reader__affix_s0_ok {x0 : List Int} {x1 : Int} {x2 : Int} {x3 : Int} {x4 : Int} {x5 : Int} {x6 : Int} {r : (List St106) × Int} (h : pat_reader__affix_s0 x0 x1 x2 x3 x4 x5 x6 = some r) : SC Tryz.prog 163 [.ptr 0 0] [.box [lR x0, .mp 1, iL x1, iL x2], .map [(iM 45, iL x3), (iM 43, iL x4), (iM 37, iL x5), (iM 164, iL x6)]] (lsv encSt106 2 r.1) [.box [lR x0, .mp 1, iL r.2, iL x2], .map [(iM 45, iL x3), (iM 43, iL x4), (iM 37, iL x5), (iM 164, iL x6)]] := by
 refine kFn (fn := Tryz.f163) (fun F hFn hFH hFD => ?_)
 unfold pat_reader__affix_s0 at h
 refine kSR ?_
 refine kC 1 [0,2] ?_
 refine kEN ?_
 refine kSR ?_
 refine kC 1 [0,2,3] ?_
 refine kEN ?_
 obtain ⟨y2, hy0, h0⟩ := bindS h
 refine K.cutX (by kernel_rfl) (fun (s1 : Int × (List St106)) => ([(2, .nl), (3, .vc 2)], [.box [lR x0, .mp 1, iL s1.1, iL x2], .map [(iM 45, iL x3), (iM 43, iL x4), (iM 37, iL x5), (iM 164, iL x6)], vecL encSt106 2 107 s1.2])) y2 ?_ (fun s1 hs => ?_)
 ·refine kb 0 ?_
  refine J.wk (Wk.viv 3 2 107 (by kernel_rfl)) ?_
  refine kl (fun (s0 : Int × (List St106)) => ([(0, .ptr 0 0), (2, .nl), (3, .vc 2)], [.box [lR x0, .mp 1, iL s0.1, iL x2], .map [(iM 45, iL x3), (iM 43, iL x4), (iM 37, iL x5), (iM 164, iL x6)], vecL encSt106 2 107 s0.2])) hy0 [0, 2, 3] (fun s0 x456 hs0 => ?_)
  refine kS ?_
  refine kS ?_
  refine J.keep [0, 2, 3] (L2 := [(0, .ptr 0 0), (2, .nl), (3, .vc 2)]) (by kernel_rfl) ?_
  refine K.draw (by kernel_rfl) (by kernel_rfl) (by kernel_rfl) (H2 := [.box [lR x0, .mp 1, iL s0.1, iL x2], .map [(iM 45, iL x3), (iM 43, iL x4), (iM 37, iL x5), (iM 164, iL x6)], vecL encSt106 2 107 s0.2]) (by kernel_rfl) (n := 3) (by kernel_rfl) ?_
  refine kD 10 ?_
  refine kEN ?_
  refine kBJ 16 hs0 (fun h6 => ?_) (fun h7 => ?_)
  ·refine kT ?_
   refine kK ?_
   refine PJ.next ?_
   refine kb 1 ?_
   refine kS ?_
   refine J.keep [0, 2, 3] (L2 := [(0, .ptr 0 0), (2, .nl), (3, .vc 2)]) (by kernel_rfl) ?_
   refine K.draw (by kernel_rfl) (by kernel_rfl) (by kernel_rfl) (H2 := [.box [lR x0, .mp 1, iL s0.1, iL x2], .map [(iM 45, iL x3), (iM 43, iL x4), (iM 37, iL x5), (iM 164, iL x6)], vecL encSt106 2 107 s0.2]) (by kernel_rfl) (n := 3) (by kernel_rfl) ?_
   refine kD 8 ?_
   obtain ⟨hm, h1⟩ := asrt h6
   refine kJ 25 (tr2 := [([], []), ([], []), ([], []), ([0, 1], []), ([], []), ([], []), ([], []), ([0, 1], []), ([], [])]) (encI_len .i32) hm ?_
   refine kD 2 ?_
   refine kEN ?_
   refine kSR ?_
   refine kC 5 [0,2,3,4,31,32] ?_
   cases hb0 : (decide ((nth x0 s0.1) = 45))
   ·have h2 := condF hb0 h1
    have hn464 := of_decide_eq_false hb0
    cases hb1 : (decide ((nth x0 s0.1) = 43))
    ·have h3 := condF hb1 h2
     have hn475 := of_decide_eq_false hb1
     cases hb2 : (decide ((nth x0 s0.1) = 37))
     ·have h4 := condF hb2 h3
      have hn486 := of_decide_eq_false hb2
      cases hb3 : (decide ((nth x0 s0.1) = 164))
      ·have h8 := condF hb3 h4
       have hn497 := of_decide_eq_false hb3
       refine RJ.look (none) (d := some 33) (ef := ⟨.tup [iL 0, .bool false], [1], []⟩) (c := missC (iM (nth x0 s0.1)) [(iM 45, iL x3), (iM 43, iL x4), (iM 37, iL x5), (iM 164, iL x6)]) (tr2 := []) (by kernel_rfl) (by simp [hitC, missC, sameB, sameE, hn464, hn475, hn486, hn497]) ?_
       refine kC 5 [0,2,3,4,5,6] ?_
       refine kEN ?_
       obtain ⟨y3, hy1, h5⟩ := bindS h8
       refine K.cutX (by kernel_rfl) (fun (s6 : Unit) => ([(0, .ptr 0 0), (2, .nl), (3, .vc 2)], [.box [lR x0, .mp 1, iL s0.1, iL x2], .map [(iM 45, iL x3), (iM 43, iL x4), (iM 37, iL x5), (iM 164, iL x6)], vecL encSt106 2 107 ((s0.2 ++ (([(⟨0, (nth x0 s0.1)⟩ : St106)] : List St106))))])) y3 ?_ (fun s6 hs => ?_)
       ·refine kb 2 ?_
        refine kSR ?_
        refine kC 2 [0,2,3,4,5,41] ?_
        refine kEN ?_
        refine kF ?_
        refine kSR ?_
        refine kC 1 [0,2,3,4,49] ?_
        obtain ⟨y0, hy2, h9⟩ := bindS hy1
        refine kCG (some 50) (args := [.ptr 0 0, iM 39, iL 0]) (v := .bool y0) (H2 := [.box [lR x0, .mp 1, iL s0.1, iL x2], .map [(iM 45, iL x3), (iM 43, iL x4), (iM 37, iL x5), (iM 164, iL x6)], vecL encSt106 2 107 s0.2]) [0, 1] (pat_reader__is_s0_ok hy2) ?_
        refine kC 1 [0,2,3,4,48] ?_
        refine kEN ?_
        refine cT 48 h9 (fun h10 => ?_)
        refine kF ?_
        refine kSR ?_
        refine RJ.seg 1 [0, 2, 3, 4, 55] (L2 := [(0, .ptr 0 0), (2, .nl), (3, .vc 2), (4, iM (nth x0 s0.1)), (55, iM (nth x0 s0.1))]) (H2 := [.box [lR x0, .mp 1, iL s0.1, iL x2], .map [(iM 45, iL x3), (iM 43, iL x4), (iM 37, iL x5), (iM 164, iL x6)], vecL encSt106 2 107 s0.2]) (by kernel_rfl) ?_
        obtain ⟨y1, hy3, h11⟩ := bindS h10
        refine kA 56 (pat_special_ok hy3) ?_
        refine kC 1 [0,2,3,4,54] ?_
        refine kEN ?_
        refine kBJ 54 h11 (fun h12 => ?_) (fun h13 => ?_)
        ·refine kT ?_
         refine kSR ?_
         refine kC 2 [0,2,3] ?_
         refine kEN ?_
         refine kX ?_
         refine PJ.blockRet ?_
         obtain rfl := oi h12
         have h14 := joinX_inr h5
         refine PJ.cutXr (fun e => nomatch e) ?_
         refine PJ.blockRet ?_
         obtain rfl := oi h14
         refine PJ.loopOut (fun e => nomatch e) (fun he0 => ?_)
         have h15 := congrArg some he0
         refine PJ.blockRet ?_
         obtain rfl := oi h15
         have h16 := joinX_inr h0
         refine PJ.cutXr (fun e => nomatch e) ?_
         obtain rfl := oi h16
         refine PJ.wk (Wk.freeze 2 (n := s0.2.length) (k := 2) (e := 107) (cs := s0.2.flatMap encSt106) (by kernel_rfl)) ?_
         exact kV [0, 1] hFn hFH hFD (v1 := lsv encSt106 2 s0.2)
        ·refine kF ?_
         refine kR ?_
         refine kC 4 [0,2,3,36,39] ?_
         obtain ⟨hm, h17⟩ := asrt h13
         refine RJ.rel (d := (some 40)) (ef := ⟨.vc 4, [2, 3], [(2, .gone), (4, .vec (s0.2.length + (([(⟨0, (nth x0 s0.1)⟩ : St106)] : List St106)).length) 2 107 (s0.2.flatMap encSt106 ++ (([(⟨0, (nth x0 s0.1)⟩ : St106)] : List St106)).flatMap encSt106))]⟩) (ef' := ⟨.vc 4, [2, 3], [(2, .gone), (4, vecL encSt106 2 107 (s0.2 ++ (([(⟨0, (nth x0 s0.1)⟩ : St106)] : List St106))))]⟩) (c := room (s0.2.length + (([(⟨0, (nth x0 s0.1)⟩ : St106)] : List St106)).length)) (tr2 := []) (H2 := [.box [lR x0, .mp 1, iL s0.1, iL x2], .map [(iM 45, iL x3), (iM 43, iL x4), (iM 37, iL x5), (iM 164, iL x6)], .gone, vecL encSt106 2 107 (([(⟨0, (nth x0 s0.1)⟩ : St106)] : List St106)), vecL encSt106 2 107 ((s0.2 ++ (([(⟨0, (nth x0 s0.1)⟩ : St106)] : List St106))))]) (by kernel_rfl) hm (fun hc => N.app) (by kernel_rfl) ?_
         refine kC 1 [0,2,3] ?_
         refine kE ?_
         refine PJ.blockNormal ?_
         obtain rfl := oi h17
         refine kW (L2 := [(0, .ptr 0 0), (2, .nl), (3, .vc 2)]) (H2 := [.box [lR x0, .mp 1, iL s0.1, iL x2], .map [(iM 45, iL x3), (iM 43, iL x4), (iM 37, iL x5), (iM 164, iL x6)], vecL encSt106 2 107 ((s0.2 ++ (([(⟨0, (nth x0 s0.1)⟩ : St106)] : List St106))))]) hFH hFD [0, 1, 4] ?_
         exact kXl [0, 2, 3]
       ·subst hs
        have h18 := joinX_inl h5
        refine kR ?_
        refine kC 8 [0,2,3] ?_
        refine kE ?_
        refine PJ.blockNormal ?_
        obtain rfl := oi h18
        exact kLN [0, 2, 3]
      ·have h19 := condT hb3 h4
       have hn497 := of_decide_eq_true hb3
       refine RJ.look (some 3) (d := some 33) (ef := ⟨.tup [iL x6, .bool true], [1], []⟩) (c := hitC (iM (nth x0 s0.1)) [(iM 45, iL x3), (iM 43, iL x4), (iM 37, iL x5), (iM 164, iL x6)] 3) (tr2 := []) (by kernel_rfl) (by simp [hitC, missC, sameB, sameE, hn464, hn475, hn486, hn497]) ?_
       refine kC 5 [0,2,3,4,5,6] ?_
       refine kEN ?_
       obtain ⟨s5, hy4, h20⟩ := bindS h19
       refine K.cutN (by kernel_rfl) (fun (s5 : Unit) => ([(0, .ptr 0 0), (2, .nl), (3, .vc 2)], [.box [lR x0, .mp 1, iL s0.1, iL x2], .map [(iM 45, iL x3), (iM 43, iL x4), (iM 37, iL x5), (iM 164, iL x6)], vecL encSt106 2 107 ((s0.2 ++ ([(⟨x6, 0⟩ : St106)] : List St106)))])) s5 ?_ ?_
       ·refine kb 2 ?_
        refine kSR ?_
        refine kC 2 [0,2,3,4,5,41] ?_
        refine kEN ?_
        refine kT ?_
        refine kR ?_
        refine kC 4 [0,2,3,43,46] ?_
        obtain ⟨hm, h21⟩ := asrt hy4
        refine RJ.rel (d := (some 47)) (ef := ⟨.vc 4, [2, 3], [(2, .gone), (4, .vec (s0.2.length + ([(⟨x6, 0⟩ : St106)] : List St106).length) 2 107 (s0.2.flatMap encSt106 ++ ([(⟨x6, 0⟩ : St106)] : List St106).flatMap encSt106))]⟩) (ef' := ⟨.vc 4, [2, 3], [(2, .gone), (4, vecL encSt106 2 107 (s0.2 ++ ([(⟨x6, 0⟩ : St106)] : List St106)))]⟩) (c := room (s0.2.length + ([(⟨x6, 0⟩ : St106)] : List St106).length)) (tr2 := []) (H2 := [.box [lR x0, .mp 1, iL s0.1, iL x2], .map [(iM 45, iL x3), (iM 43, iL x4), (iM 37, iL x5), (iM 164, iL x6)], .gone, vecL encSt106 2 107 ([(⟨x6, 0⟩ : St106)] : List St106), vecL encSt106 2 107 ((s0.2 ++ ([(⟨x6, 0⟩ : St106)] : List St106)))]) (by kernel_rfl) hm (fun hc => N.app) (by kernel_rfl) ?_
        refine kC 1 [0,2,3] ?_
        refine kE ?_
        refine PJ.blockNormal ?_
        obtain rfl := oi h21
        refine kW (L2 := [(0, .ptr 0 0), (2, .nl), (3, .vc 2)]) (H2 := [.box [lR x0, .mp 1, iL s0.1, iL x2], .map [(iM 45, iL x3), (iM 43, iL x4), (iM 37, iL x5), (iM 164, iL x6)], vecL encSt106 2 107 ((s0.2 ++ ([(⟨x6, 0⟩ : St106)] : List St106)))]) hFH hFD [0, 1, 4] ?_
        exact kN [0, 2, 3]
       ·refine kR ?_
        refine kC 8 [0,2,3] ?_
        refine kE ?_
        refine PJ.blockNormal ?_
        obtain rfl := oi h20
        exact kLN [0, 2, 3]
     ·have h22 := condT hb2 h3
      have hn486 := of_decide_eq_true hb2
      refine RJ.look (some 2) (d := some 33) (ef := ⟨.tup [iL x5, .bool true], [1], []⟩) (c := hitC (iM (nth x0 s0.1)) [(iM 45, iL x3), (iM 43, iL x4), (iM 37, iL x5), (iM 164, iL x6)] 2) (tr2 := []) (by kernel_rfl) (by simp [hitC, missC, sameB, sameE, hn464, hn475, hn486]) ?_
      refine kC 5 [0,2,3,4,5,6] ?_
      refine kEN ?_
      obtain ⟨s4, hy5, h23⟩ := bindS h22
      refine K.cutN (by kernel_rfl) (fun (s4 : Unit) => ([(0, .ptr 0 0), (2, .nl), (3, .vc 2)], [.box [lR x0, .mp 1, iL s0.1, iL x2], .map [(iM 45, iL x3), (iM 43, iL x4), (iM 37, iL x5), (iM 164, iL x6)], vecL encSt106 2 107 ((s0.2 ++ ([(⟨x5, 0⟩ : St106)] : List St106)))])) s4 ?_ ?_
      ·refine kb 2 ?_
       refine kSR ?_
       refine kC 2 [0,2,3,4,5,41] ?_
       refine kEN ?_
       refine kT ?_
       refine kR ?_
       refine kC 4 [0,2,3,43,46] ?_
       obtain ⟨hm, h24⟩ := asrt hy5
       refine RJ.rel (d := (some 47)) (ef := ⟨.vc 4, [2, 3], [(2, .gone), (4, .vec (s0.2.length + ([(⟨x5, 0⟩ : St106)] : List St106).length) 2 107 (s0.2.flatMap encSt106 ++ ([(⟨x5, 0⟩ : St106)] : List St106).flatMap encSt106))]⟩) (ef' := ⟨.vc 4, [2, 3], [(2, .gone), (4, vecL encSt106 2 107 (s0.2 ++ ([(⟨x5, 0⟩ : St106)] : List St106)))]⟩) (c := room (s0.2.length + ([(⟨x5, 0⟩ : St106)] : List St106).length)) (tr2 := []) (H2 := [.box [lR x0, .mp 1, iL s0.1, iL x2], .map [(iM 45, iL x3), (iM 43, iL x4), (iM 37, iL x5), (iM 164, iL x6)], .gone, vecL encSt106 2 107 ([(⟨x5, 0⟩ : St106)] : List St106), vecL encSt106 2 107 ((s0.2 ++ ([(⟨x5, 0⟩ : St106)] : List St106)))]) (by kernel_rfl) hm (fun hc => N.app) (by kernel_rfl) ?_
       refine kC 1 [0,2,3] ?_
       refine kE ?_
       refine PJ.blockNormal ?_
       obtain rfl := oi h24
       refine kW (L2 := [(0, .ptr 0 0), (2, .nl), (3, .vc 2)]) (H2 := [.box [lR x0, .mp 1, iL s0.1, iL x2], .map [(iM 45, iL x3), (iM 43, iL x4), (iM 37, iL x5), (iM 164, iL x6)], vecL encSt106 2 107 ((s0.2 ++ ([(⟨x5, 0⟩ : St106)] : List St106)))]) hFH hFD [0, 1, 4] ?_
       exact kN [0, 2, 3]
      ·refine kR ?_
       refine kC 8 [0,2,3] ?_
       refine kE ?_
       refine PJ.blockNormal ?_
       obtain rfl := oi h23
       exact kLN [0, 2, 3]
    ·have h25 := condT hb1 h2
     have hn475 := of_decide_eq_true hb1
     refine RJ.look (some 1) (d := some 33) (ef := ⟨.tup [iL x4, .bool true], [1], []⟩) (c := hitC (iM (nth x0 s0.1)) [(iM 45, iL x3), (iM 43, iL x4), (iM 37, iL x5), (iM 164, iL x6)] 1) (tr2 := []) (by kernel_rfl) (by simp [hitC, missC, sameB, sameE, hn464, hn475]) ?_
     refine kC 5 [0,2,3,4,5,6] ?_
     refine kEN ?_
     obtain ⟨s3, hy6, h26⟩ := bindS h25
     refine K.cutN (by kernel_rfl) (fun (s3 : Unit) => ([(0, .ptr 0 0), (2, .nl), (3, .vc 2)], [.box [lR x0, .mp 1, iL s0.1, iL x2], .map [(iM 45, iL x3), (iM 43, iL x4), (iM 37, iL x5), (iM 164, iL x6)], vecL encSt106 2 107 ((s0.2 ++ ([(⟨x4, 0⟩ : St106)] : List St106)))])) s3 ?_ ?_
     ·refine kb 2 ?_
      refine kSR ?_
      refine kC 2 [0,2,3,4,5,41] ?_
      refine kEN ?_
      refine kT ?_
      refine kR ?_
      refine kC 4 [0,2,3,43,46] ?_
      obtain ⟨hm, h27⟩ := asrt hy6
      refine RJ.rel (d := (some 47)) (ef := ⟨.vc 4, [2, 3], [(2, .gone), (4, .vec (s0.2.length + ([(⟨x4, 0⟩ : St106)] : List St106).length) 2 107 (s0.2.flatMap encSt106 ++ ([(⟨x4, 0⟩ : St106)] : List St106).flatMap encSt106))]⟩) (ef' := ⟨.vc 4, [2, 3], [(2, .gone), (4, vecL encSt106 2 107 (s0.2 ++ ([(⟨x4, 0⟩ : St106)] : List St106)))]⟩) (c := room (s0.2.length + ([(⟨x4, 0⟩ : St106)] : List St106).length)) (tr2 := []) (H2 := [.box [lR x0, .mp 1, iL s0.1, iL x2], .map [(iM 45, iL x3), (iM 43, iL x4), (iM 37, iL x5), (iM 164, iL x6)], .gone, vecL encSt106 2 107 ([(⟨x4, 0⟩ : St106)] : List St106), vecL encSt106 2 107 ((s0.2 ++ ([(⟨x4, 0⟩ : St106)] : List St106)))]) (by kernel_rfl) hm (fun hc => N.app) (by kernel_rfl) ?_
      refine kC 1 [0,2,3] ?_
      refine kE ?_
      refine PJ.blockNormal ?_
      obtain rfl := oi h27
      refine kW (L2 := [(0, .ptr 0 0), (2, .nl), (3, .vc 2)]) (H2 := [.box [lR x0, .mp 1, iL s0.1, iL x2], .map [(iM 45, iL x3), (iM 43, iL x4), (iM 37, iL x5), (iM 164, iL x6)], vecL encSt106 2 107 ((s0.2 ++ ([(⟨x4, 0⟩ : St106)] : List St106)))]) hFH hFD [0, 1, 4] ?_
      exact kN [0, 2, 3]
     ·refine kR ?_
      refine kC 8 [0,2,3] ?_
      refine kE ?_
      refine PJ.blockNormal ?_
      obtain rfl := oi h26
      exact kLN [0, 2, 3]
   ·have h28 := condT hb0 h1
    have hn464 := of_decide_eq_true hb0
    refine RJ.look (some 0) (d := some 33) (ef := ⟨.tup [iL x3, .bool true], [1], []⟩) (c := hitC (iM (nth x0 s0.1)) [(iM 45, iL x3), (iM 43, iL x4), (iM 37, iL x5), (iM 164, iL x6)] 0) (tr2 := []) (by kernel_rfl) (by simp [hitC, missC, sameB, sameE, hn464]) ?_
    refine kC 5 [0,2,3,4,5,6] ?_
    refine kEN ?_
    obtain ⟨s2, hy7, h29⟩ := bindS h28
    refine K.cutN (by kernel_rfl) (fun (s2 : Unit) => ([(0, .ptr 0 0), (2, .nl), (3, .vc 2)], [.box [lR x0, .mp 1, iL s0.1, iL x2], .map [(iM 45, iL x3), (iM 43, iL x4), (iM 37, iL x5), (iM 164, iL x6)], vecL encSt106 2 107 ((s0.2 ++ ([(⟨x3, 0⟩ : St106)] : List St106)))])) s2 ?_ ?_
    ·refine kb 2 ?_
     refine kSR ?_
     refine kC 2 [0,2,3,4,5,41] ?_
     refine kEN ?_
     refine kT ?_
     refine kR ?_
     refine kC 4 [0,2,3,43,46] ?_
     obtain ⟨hm, h30⟩ := asrt hy7
     refine RJ.rel (d := (some 47)) (ef := ⟨.vc 4, [2, 3], [(2, .gone), (4, .vec (s0.2.length + ([(⟨x3, 0⟩ : St106)] : List St106).length) 2 107 (s0.2.flatMap encSt106 ++ ([(⟨x3, 0⟩ : St106)] : List St106).flatMap encSt106))]⟩) (ef' := ⟨.vc 4, [2, 3], [(2, .gone), (4, vecL encSt106 2 107 (s0.2 ++ ([(⟨x3, 0⟩ : St106)] : List St106)))]⟩) (c := room (s0.2.length + ([(⟨x3, 0⟩ : St106)] : List St106).length)) (tr2 := []) (H2 := [.box [lR x0, .mp 1, iL s0.1, iL x2], .map [(iM 45, iL x3), (iM 43, iL x4), (iM 37, iL x5), (iM 164, iL x6)], .gone, vecL encSt106 2 107 ([(⟨x3, 0⟩ : St106)] : List St106), vecL encSt106 2 107 ((s0.2 ++ ([(⟨x3, 0⟩ : St106)] : List St106)))]) (by kernel_rfl) hm (fun hc => N.app) (by kernel_rfl) ?_
     refine kC 1 [0,2,3] ?_
     refine kE ?_
     refine PJ.blockNormal ?_
     obtain rfl := oi h30
     refine kW (L2 := [(0, .ptr 0 0), (2, .nl), (3, .vc 2)]) (H2 := [.box [lR x0, .mp 1, iL s0.1, iL x2], .map [(iM 45, iL x3), (iM 43, iL x4), (iM 37, iL x5), (iM 164, iL x6)], vecL encSt106 2 107 ((s0.2 ++ ([(⟨x3, 0⟩ : St106)] : List St106)))]) hFH hFD [0, 1, 4] ?_
     exact kN [0, 2, 3]
    ·refine kR ?_
     refine kC 8 [0,2,3] ?_
     refine kE ?_
     refine PJ.blockNormal ?_
     obtain rfl := oi h29
     exact kLN [0, 2, 3]
  ·refine kF ?_
   refine K.exit 0 (by kernel_rfl) ?_
   refine PJ.passExit ?_
   obtain rfl := oi h7
   refine PJ.loopOut (fun e => nomatch e) (fun he1 => ?_)
   have h31 := congrArg some he1
   refine PJ.blockOut ?_
   obtain rfl := oi h31
   exact kXl [2, 3]
 ·subst hs
  have h32 := joinX_inl h0
  refine kSR ?_
  refine kC 2 [2] ?_
  refine kEN ?_
  refine kX ?_
  obtain rfl := oi h32
  refine PJ.wk (Wk.freeze 2 (n := s1.2.length) (k := 2) (e := 107) (cs := s1.2.flatMap encSt106) (by kernel_rfl)) ?_
  exact kV [0, 1] hFn hFH hFD (v1 := lsv encSt106 2 s1.2)
def pat_reader__pad_s1 (x0 : Int) (x1 : List Int) (x2 : Int) (x3 : Int) (x4 : Int) (x5 : Int) (x6 : Int) (x7 : Int) (x8 : List St106) (x9 : Bool) (x10 : Int) (x11 : Int) (x12 : Int) (x13 : Int) (x14 : Int) (x15 : Int) (x16 : Int) (x17 : Int) (x18 : Int) (x19 : Bool) (x20 : Int) (x21 : Int) : Option (Int) :=
 (Option.bind (bif (decide (¬ x21 = 0)) then none else (Option.bind (pat_reader__eat_s0 42 x1 x2 x3 x4 x5 x6 x7) fun y0 => (some ((!y0.1), y0.2)))) fun (s0 : Bool × Int) => (bif s0.1 then (some s0.2) else none))
theorem pat_reader__pad_s1_ok {x0 : Int} {x1 : List Int} {x2 : Int} {x3 : Int} {x4 : Int} {x5 : Int} {x6 : Int} {x7 : Int} {x8 : List St106} {x9 : Bool} {x10 : Int} {x11 : Int} {x12 : Int} {x13 : Int} {x14 : Int} {x15 : Int} {x16 : Int} {x17 : Int} {x18 : Int} {x19 : Bool} {x20 : Int} {x21 : Int} {r : Int} (h : pat_reader__pad_s1 x0 x1 x2 x3 x4 x5 x6 x7 x8 x9 x10 x11 x12 x13 x14 x15 x16 x17 x18 x19 x20 x21 = some r) : SC Tryz.prog 162 [.ptr 0 0, .ptr 2 0, iL x0] [.box [lR x1, .mp 1, iL x2, iL x3], .map [(iM 45, iL x4), (iM 43, iL x5), (iM 37, iL x6), (iM 164, iL x7)], .box [lsv encSt106 2 x8, .nl, .nl, .nl, .bool x9, iL x10, iL x11, iL x12, iL x13, iL x14, iL x15, iL x16, iL x17, iL x18, .bool x19, iM x20, iL x21]] (.tup []) [.box [lR x1, .mp 1, iL r, iL x3], .map [(iM 45, iL x4), (iM 43, iL x5), (iM 37, iL x6), (iM 164, iL x7)], .box [lsv encSt106 2 x8, .nl, .nl, .nl, .bool x9, iL x10, iL x11, iL x12, iL x13, iL x14, iL x15, iL x16, iL x17, iL x18, .bool x19, iM x20, iL x21]] := by
 refine kFn (fn := Tryz.f162) (fun F hFn hFH hFD => ?_)
 unfold pat_reader__pad_s1 at h
 refine kS ?_
 obtain ⟨s0, hy0, h0⟩ := bindS h
 refine K.cutN (by kernel_rfl) (fun (s0 : Bool × Int) => ([(0, .ptr 0 0), (1, .ptr 2 0), (2, iL x0), (15, .bool s0.1)], [.box [lR x1, .mp 1, iL s0.2, iL x3], .map [(iM 45, iL x4), (iM 43, iL x5), (iM 37, iL x6), (iM 164, iL x7)], .box [lsv encSt106 2 x8, .nl, .nl, .nl, .bool x9, iL x10, iL x11, iL x12, iL x13, iL x14, iL x15, iL x16, iL x17, iL x18, .bool x19, iM x20, iL x21]])) s0 ?_ ?_
 ·refine kR ?_
  refine kC 6 [0,1,2,11] ?_
  refine cTR 11 hy0 (fun h1 => ?_)
  refine kC 1 [0,1,2,11,12] ?_
  obtain ⟨y0, hy1, h2⟩ := bindS h1
  refine kCG (some 13) (args := [.ptr 0 0, iM 42]) (v := .bool y0.1) (H2 := [.box [lR x1, .mp 1, iL y0.2, iL x3], .map [(iM 45, iL x4), (iM 43, iL x5), (iM 37, iL x6), (iM 164, iL x7)], .box [lsv encSt106 2 x8, .nl, .nl, .nl, .bool x9, iL x10, iL x11, iL x12, iL x13, iL x14, iL x15, iL x16, iL x17, iL x18, .bool x19, iM x20, iL x21]]) [0, 1] (pat_reader__eat_s0_ok hy1) ?_
  refine kC 2 [0,1,2,15] ?_
  refine kE ?_
  obtain rfl := oi h2
  exact kN [0, 1, 2, 15]
 ·refine cF 15 h0 (fun h3 => ?_)
  refine kT ?_
  refine kX ?_
  refine PJ.passRet ?_
  obtain rfl := oi h3
  exact kV [0, 1, 2] hFn hFH hFD (v1 := .tup [])
def pat_reader__many_s0 (x0 : Int) (x1 : List Int) (x2 : Int) (x3 : Int) (x4 : Int) (x5 : Int) (x6 : Int) (x7 : Int) : Option (Int × Int) :=
 (Option.bind (loopN (fun (s1 : Int × Int) => (Option.bind (pat_reader__eat_s0 x0 x1 s1.2 x3 x4 x5 x6 x7) fun y0 => (bif y0.1 then (some (.inl ((IntKind.wrap .i64 (s1.1 + 1)), y0.2))) else (some (.inr (s1.1, y0.2)))))) big (0, x2)) fun (s0 : Int × Int) => (some (s0.1, s0.2)))
theorem pat_reader__many_s0_ok {x0 : Int} {x1 : List Int} {x2 : Int} {x3 : Int} {x4 : Int} {x5 : Int} {x6 : Int} {x7 : Int} {r : Int × Int} (h : pat_reader__many_s0 x0 x1 x2 x3 x4 x5 x6 x7 = some r) : SC Tryz.prog 184 [.ptr 0 0, iM x0] [.box [lR x1, .mp 1, iL x2, iL x3], .map [(iM 45, iL x4), (iM 43, iL x5), (iM 37, iL x6), (iM 164, iL x7)]] (iL r.1) [.box [lR x1, .mp 1, iL r.2, iL x3], .map [(iM 45, iL x4), (iM 43, iL x5), (iM 37, iL x6), (iM 164, iL x7)]] := by
 refine kFn (fn := Tryz.f184) (fun F hFn hFH hFD => ?_)
 unfold pat_reader__many_s0 at h
 refine kSR ?_
 refine kC 1 [0,1,4] ?_
 refine kEN ?_
 refine kSR ?_
 refine kC 1 [0,1,4,5] ?_
 refine kEN ?_
 obtain ⟨s0, hy0, h0⟩ := bindS h
 refine K.cutN (by kernel_rfl) (fun (s0 : Int × Int) => ([(4, iL 0), (5, iL s0.1)], [.box [lR x1, .mp 1, iL s0.2, iL x3], .map [(iM 45, iL x4), (iM 43, iL x5), (iM 37, iL x6), (iM 164, iL x7)]])) s0 ?_ ?_
 ·refine kb 0 ?_
  refine kl (fun (s1 : Int × Int) => ([(0, .ptr 0 0), (1, iM x0), (4, iL 0), (5, iL s1.1)], [.box [lR x1, .mp 1, iL s1.2, iL x3], .map [(iM 45, iL x4), (iM 43, iL x5), (iM 37, iL x6), (iM 164, iL x7)]])) hy0 [0, 1, 4, 5] (fun s1 x51 hs0 => ?_)
  refine kS ?_
  refine kSR ?_
  refine kC 2 [0,1,4,5,6,7] ?_
  obtain ⟨y0, hy1, h1⟩ := bindS hs0
  refine kCG (some 8) (args := [.ptr 0 0, iM x0]) (v := .bool y0.1) (H2 := [.box [lR x1, .mp 1, iL y0.2, iL x3], .map [(iM 45, iL x4), (iM 43, iL x5), (iM 37, iL x6), (iM 164, iL x7)]]) [0, 1] (pat_reader__eat_s0_ok hy1) ?_
  refine kEN ?_
  refine kBJ 8 h1 (fun h2 => ?_) (fun h3 => ?_)
  ·refine kT ?_
   refine kK ?_
   refine PJ.next ?_
   refine kb 1 ?_
   refine kR ?_
   refine kC 3 [0,1,4,5] ?_
   refine kE ?_
   refine PJ.blockNormal ?_
   obtain rfl := oi h2
   exact kLN [0, 1, 4, 5]
  ·refine kF ?_
   refine K.exit 0 (by kernel_rfl) ?_
   refine PJ.passExit ?_
   obtain rfl := oi h3
   refine PJ.loopOut (fun e => nomatch e) (fun he0 => ?_)
   have h4 := congrArg some he0
   refine PJ.blockOut ?_
   obtain rfl := oi h4
   exact kN [4, 5]
 ·refine kSR ?_
  refine kC 2 [4] ?_
  refine kEN ?_
  refine kX ?_
  obtain rfl := oi h0
  exact kV [0, 1] hFn hFH hFD (v1 := iL s0.1)
def pat_reader__place_s0 (x0 : Int) (x1 : List Int) (x2 : Int) (x3 : Int) (x4 : Int) (x5 : Int) (x6 : Int) (x7 : Int) (x8 : List St106) (x9 : Bool) (x10 : Int) (x11 : Int) (x12 : Int) (x13 : Int) (x14 : Int) (x15 : Int) (x16 : Int) (x17 : Int) (x18 : Int) (x19 : Bool) (x20 : Int) (x21 : Int) : Option (Bool) :=
 (Option.bind (Option.bind (pat_reader__is_s0 48 x0 x1 x2 x3 x4 x5 x6 x7) fun y0 => (bif y0 then (some true) else (bif (decide (x11 = 0)) then (Option.bind (pat_reader__is_s0 35 x0 x1 x2 x3 x4 x5 x6 x7) fun y1 => (some y1)) else (some false)))) fun (s0 : Bool) => (some s0))
theorem pat_reader__place_s0_ok {x0 : Int} {x1 : List Int} {x2 : Int} {x3 : Int} {x4 : Int} {x5 : Int} {x6 : Int} {x7 : Int} {x8 : List St106} {x9 : Bool} {x10 : Int} {x11 : Int} {x12 : Int} {x13 : Int} {x14 : Int} {x15 : Int} {x16 : Int} {x17 : Int} {x18 : Int} {x19 : Bool} {x20 : Int} {x21 : Int} {r : Bool} (h : pat_reader__place_s0 x0 x1 x2 x3 x4 x5 x6 x7 x8 x9 x10 x11 x12 x13 x14 x15 x16 x17 x18 x19 x20 x21 = some r) : SC Tryz.prog 201 [.ptr 0 0, .ptr 2 0, iL x0] [.box [lR x1, .mp 1, iL x2, iL x3], .map [(iM 45, iL x4), (iM 43, iL x5), (iM 37, iL x6), (iM 164, iL x7)], .box [lsv encSt106 2 x8, .nl, .nl, .nl, .bool x9, iL x10, iL x11, iL x12, iL x13, iL x14, iL x15, iL x16, iL x17, iL x18, .bool x19, iM x20, iL x21]] (.bool r) [.box [lR x1, .mp 1, iL x2, iL x3], .map [(iM 45, iL x4), (iM 43, iL x5), (iM 37, iL x6), (iM 164, iL x7)], .box [lsv encSt106 2 x8, .nl, .nl, .nl, .bool x9, iL x10, iL x11, iL x12, iL x13, iL x14, iL x15, iL x16, iL x17, iL x18, .bool x19, iM x20, iL x21]] := by
 refine kFn (fn := Tryz.f201) (fun F hFn hFH hFD => ?_)
 unfold pat_reader__place_s0 at h
 refine kSR ?_
 refine kC 1 [0,1,2,6] ?_
 refine kEN ?_
 obtain ⟨s0, hy0, h0⟩ := bindS h
 refine K.cutN (by kernel_rfl) (fun (s0 : Bool) => ([(6, .bool s0)], [.box [lR x1, .mp 1, iL x2, iL x3], .map [(iM 45, iL x4), (iM 43, iL x5), (iM 37, iL x6), (iM 164, iL x7)], .box [lsv encSt106 2 x8, .nl, .nl, .nl, .bool x9, iL x10, iL x11, iL x12, iL x13, iL x14, iL x15, iL x16, iL x17, iL x18, .bool x19, iM x20, iL x21]])) s0 ?_ ?_
 ·refine kR ?_
  refine kC 2 [0,1,2,6,7,8] ?_
  obtain ⟨y0, hy1, h1⟩ := bindS hy0
  refine kCG (some 9) (args := [.ptr 0 0, iM 48, iL x0]) (v := .bool y0) (H2 := [.box [lR x1, .mp 1, iL x2, iL x3], .map [(iM 45, iL x4), (iM 43, iL x5), (iM 37, iL x6), (iM 164, iL x7)], .box [lsv encSt106 2 x8, .nl, .nl, .nl, .bool x9, iL x10, iL x11, iL x12, iL x13, iL x14, iL x15, iL x16, iL x17, iL x18, .bool x19, iM x20, iL x21]]) [0, 1] (pat_reader__is_s0_ok hy1) ?_
  refine kC 1 [0,1,2,6,10] ?_
  refine kB 10 h1 (fun h2 => ?_) (fun h3 => ?_)
  ·refine kC 12 [6] ?_
   refine kE ?_
   obtain rfl := oi h2
   exact kN [6]
  ·refine kC 6 [0,2,6,10,16] ?_
   refine kB 16 h3 (fun h4 => ?_) (fun h5 => ?_)
   ·refine kC 2 [6,10,16,17,18] ?_
    obtain ⟨y1, hy2, h6⟩ := bindS h4
    refine kCG (some 19) (args := [.ptr 0 0, iM 35, iL x0]) (v := .bool y1) (H2 := [.box [lR x1, .mp 1, iL x2, iL x3], .map [(iM 45, iL x4), (iM 43, iL x5), (iM 37, iL x6), (iM 164, iL x7)], .box [lsv encSt106 2 x8, .nl, .nl, .nl, .bool x9, iL x10, iL x11, iL x12, iL x13, iL x14, iL x15, iL x16, iL x17, iL x18, .bool x19, iM x20, iL x21]]) [0, 1] (pat_reader__is_s0_ok hy2) ?_
    refine kC 3 [6] ?_
    refine kE ?_
    obtain rfl := oi h6
    exact kN [6]
   ·refine kC 6 [6] ?_
    refine kE ?_
    obtain rfl := oi h5
    exact kN [6]
 ·refine kX ?_
  obtain rfl := oi h0
  exact kV [0, 1, 2] hFn hFH hFD (v1 := .bool s0)
def pat_reader__comma_s0 (x0 : Int) (x1 : List Int) (x2 : Int) (x3 : Int) (x4 : Int) (x5 : Int) (x6 : Int) (x7 : Int) (x8 : List St106) (x9 : Bool) (x10 : Int) (x11 : Int) (x12 : Int) (x13 : Int) (x14 : Int) (x15 : Int) (x16 : Int) (x17 : Int) (x18 : Int) (x19 : Bool) (x20 : Int) (x21 : Int) : Option (Bool) :=
 (Option.bind (bif (decide (x0 > 0)) then (Option.bind (pat_reader__is_s0 44 0 x1 x2 x3 x4 x5 x6 x7) fun y0 => (bif y0 then (Option.bind (pat_reader__place_s0 1 x1 x2 x3 x4 x5 x6 x7 x8 x9 x10 x11 x12 x13 x14 x15 x16 x17 x18 x19 x20 x21) fun y1 => (some y1)) else (some false))) else none) fun (s0 : Bool) => (some s0))
theorem pat_reader__comma_s0_ok {x0 : Int} {x1 : List Int} {x2 : Int} {x3 : Int} {x4 : Int} {x5 : Int} {x6 : Int} {x7 : Int} {x8 : List St106} {x9 : Bool} {x10 : Int} {x11 : Int} {x12 : Int} {x13 : Int} {x14 : Int} {x15 : Int} {x16 : Int} {x17 : Int} {x18 : Int} {x19 : Bool} {x20 : Int} {x21 : Int} {r : Bool} (h : pat_reader__comma_s0 x0 x1 x2 x3 x4 x5 x6 x7 x8 x9 x10 x11 x12 x13 x14 x15 x16 x17 x18 x19 x20 x21 = some r) : SC Tryz.prog 202 [.ptr 0 0, .ptr 2 0, iL x0] [.box [lR x1, .mp 1, iL x2, iL x3], .map [(iM 45, iL x4), (iM 43, iL x5), (iM 37, iL x6), (iM 164, iL x7)], .box [lsv encSt106 2 x8, .nl, .nl, .nl, .bool x9, iL x10, iL x11, iL x12, iL x13, iL x14, iL x15, iL x16, iL x17, iL x18, .bool x19, iM x20, iL x21]] (.bool r) [.box [lR x1, .mp 1, iL x2, iL x3], .map [(iM 45, iL x4), (iM 43, iL x5), (iM 37, iL x6), (iM 164, iL x7)], .box [lsv encSt106 2 x8, .nl, .nl, .nl, .bool x9, iL x10, iL x11, iL x12, iL x13, iL x14, iL x15, iL x16, iL x17, iL x18, .bool x19, iM x20, iL x21]] := by
 refine kFn (fn := Tryz.f202) (fun F hFn hFH hFD => ?_)
 unfold pat_reader__comma_s0 at h
 refine kSR ?_
 refine kC 1 [0,1,2,6] ?_
 refine kEN ?_
 obtain ⟨s0, hy0, h0⟩ := bindS h
 refine K.cutN (by kernel_rfl) (fun (s0 : Bool) => ([(6, .bool s0)], [.box [lR x1, .mp 1, iL x2, iL x3], .map [(iM 45, iL x4), (iM 43, iL x5), (iM 37, iL x6), (iM 164, iL x7)], .box [lsv encSt106 2 x8, .nl, .nl, .nl, .bool x9, iL x10, iL x11, iL x12, iL x13, iL x14, iL x15, iL x16, iL x17, iL x18, .bool x19, iM x20, iL x21]])) s0 ?_ ?_
 ·refine kR ?_
  refine kC 3 [0,1,6,9] ?_
  refine cFR 9 hy0 (fun h1 => ?_)
  refine kC 1 [0,1,6,9,10] ?_
  obtain ⟨y0, hy1, h2⟩ := bindS h1
  refine kCG (some 11) (args := [.ptr 0 0, iM 44, iL 0]) (v := .bool y0) (H2 := [.box [lR x1, .mp 1, iL x2, iL x3], .map [(iM 45, iL x4), (iM 43, iL x5), (iM 37, iL x6), (iM 164, iL x7)], .box [lsv encSt106 2 x8, .nl, .nl, .nl, .bool x9, iL x10, iL x11, iL x12, iL x13, iL x14, iL x15, iL x16, iL x17, iL x18, .bool x19, iM x20, iL x21]]) [0, 1] (pat_reader__is_s0_ok hy1) ?_
  refine kC 2 [0,1,6,13] ?_
  refine kB 13 h2 (fun h3 => ?_) (fun h4 => ?_)
  ·refine kC 2 [6,13,14,15] ?_
   obtain ⟨y1, hy2, h5⟩ := bindS h3
   refine kCG (some 16) (args := [.ptr 0 0, .ptr 2 0, iL 1]) (v := .bool y1) (H2 := [.box [lR x1, .mp 1, iL x2, iL x3], .map [(iM 45, iL x4), (iM 43, iL x5), (iM 37, iL x6), (iM 164, iL x7)], .box [lsv encSt106 2 x8, .nl, .nl, .nl, .bool x9, iL x10, iL x11, iL x12, iL x13, iL x14, iL x15, iL x16, iL x17, iL x18, .bool x19, iM x20, iL x21]]) [0, 1, 2] (pat_reader__place_s0_ok hy2) ?_
   refine kC 2 [6] ?_
   refine kE ?_
   obtain rfl := oi h5
   exact kN [6]
  ·refine kC 5 [6] ?_
   refine kE ?_
   obtain rfl := oi h4
   exact kN [6]
 ·refine kX ?_
  obtain rfl := oi h0
  exact kV [0, 1, 2] hFn hFH hFD (v1 := .bool s0)
def pat_reader__between_s0 (x0 : Int) (x1 : Int) (x2 : List Int) (x3 : Int) (x4 : Int) (x5 : Int) (x6 : Int) (x7 : Int) (x8 : Int) (x9 : List St106) (x10 : Bool) (x11 : Int) (x12 : Int) (x13 : Int) (x14 : Int) (x15 : Int) (x16 : Int) (x17 : Int) (x18 : Int) (x19 : Int) (x20 : Bool) (x21 : Int) (x22 : Int) : Option (Unit) :=
 (Option.bind (bif (decide (x0 = 0)) then (some true) else (Option.bind (pat_reader__comma_s0 x1 x2 x3 x4 x5 x6 x7 x8 x9 x10 x11 x12 x13 x14 x15 x16 x17 x18 x19 x20 x21 x22) fun y0 => (some (!y0)))) fun (s0 : Bool) => (bif s0 then (some ()) else none))
theorem pat_reader__between_s0_ok {x0 : Int} {x1 : Int} {x2 : List Int} {x3 : Int} {x4 : Int} {x5 : Int} {x6 : Int} {x7 : Int} {x8 : Int} {x9 : List St106} {x10 : Bool} {x11 : Int} {x12 : Int} {x13 : Int} {x14 : Int} {x15 : Int} {x16 : Int} {x17 : Int} {x18 : Int} {x19 : Int} {x20 : Bool} {x21 : Int} {x22 : Int} {r : Unit} (h : pat_reader__between_s0 x0 x1 x2 x3 x4 x5 x6 x7 x8 x9 x10 x11 x12 x13 x14 x15 x16 x17 x18 x19 x20 x21 x22 = some r) : SC Tryz.prog 203 [.ptr 0 0, .ptr 2 0, iL x0, iL x1] [.box [lR x2, .mp 1, iL x3, iL x4], .map [(iM 45, iL x5), (iM 43, iL x6), (iM 37, iL x7), (iM 164, iL x8)], .box [lsv encSt106 2 x9, .nl, .nl, .nl, .bool x10, iL x11, iL x12, iL x13, iL x14, iL x15, iL x16, iL x17, iL x18, iL x19, .bool x20, iM x21, iL x22]] (.tup []) [.box [lR x2, .mp 1, iL x3, iL x4], .map [(iM 45, iL x5), (iM 43, iL x6), (iM 37, iL x7), (iM 164, iL x8)], .box [lsv encSt106 2 x9, .nl, .nl, .nl, .bool x10, iL x11, iL x12, iL x13, iL x14, iL x15, iL x16, iL x17, iL x18, iL x19, .bool x20, iM x21, iL x22]] := by
 refine kFn (fn := Tryz.f203) (fun F hFn hFH hFD => ?_)
 unfold pat_reader__between_s0 at h
 refine kS ?_
 obtain ⟨s0, hy0, h0⟩ := bindS h
 refine K.cutN (by kernel_rfl) (fun (s0 : Bool) => ([(0, .ptr 0 0), (1, .ptr 2 0), (2, iL x0), (3, iL x1), (16, .bool s0)], [.box [lR x2, .mp 1, iL x3, iL x4], .map [(iM 45, iL x5), (iM 43, iL x6), (iM 37, iL x7), (iM 164, iL x8)], .box [lsv encSt106 2 x9, .nl, .nl, .nl, .bool x10, iL x11, iL x12, iL x13, iL x14, iL x15, iL x16, iL x17, iL x18, iL x19, .bool x20, iM x21, iL x22]])) s0 ?_ ?_
 ·refine kR ?_
  refine kC 3 [0,1,2,3,10] ?_
  refine kB 10 hy0 (fun h1 => ?_) (fun h2 => ?_)
  ·refine kC 6 [0,1,2,3,16] ?_
   refine kE ?_
   obtain rfl := oi h1
   exact kN [0, 1, 2, 3, 16]
  ·refine kC 3 [0,1,2,3,10,11,12,13] ?_
   obtain ⟨y0, hy1, h3⟩ := bindS h2
   refine kCG (some 14) (args := [.ptr 0 0, .ptr 2 0, iL x1]) (v := .bool y0) (H2 := [.box [lR x2, .mp 1, iL x3, iL x4], .map [(iM 45, iL x5), (iM 43, iL x6), (iM 37, iL x7), (iM 164, iL x8)], .box [lsv encSt106 2 x9, .nl, .nl, .nl, .bool x10, iL x11, iL x12, iL x13, iL x14, iL x15, iL x16, iL x17, iL x18, iL x19, .bool x20, iM x21, iL x22]]) [0, 1, 2] (pat_reader__comma_s0_ok hy1) ?_
   refine kC 2 [0,1,2,3,16] ?_
   refine kE ?_
   obtain rfl := oi h3
   exact kN [0, 1, 2, 3, 16]
 ·refine cF 16 h0 (fun h4 => ?_)
  refine kT ?_
  refine kX ?_
  refine PJ.passRet ?_
  obtain rfl := oi h4
  exact kV [0, 1, 2] hFn hFH hFD (v1 := .tup [])
def pat_reader__places_s0 (x0 : List Int) (x1 : Int) (x2 : Int) (x3 : Int) (x4 : Int) (x5 : Int) (x6 : Int) (x7 : List St106) (x8 : Bool) (x9 : Int) (x10 : Int) (x11 : Int) (x12 : Int) (x13 : Int) (x14 : Int) (x15 : Int) (x16 : Int) (x17 : Int) (x18 : Bool) (x19 : Int) (x20 : Int) : Option (Int × Int × Int × Int × Int) :=
 (Option.bind (loopN (fun (s0 : Int × Int × Int × Int × Int) => (Option.bind (Option.bind (Option.bind (pat_reader__place_s0 0 x0 s0.2.2.1 x2 x3 x4 x5 x6 x7 x8 s0.2.2.2.1 s0.2.2.2.2 x11 x12 x13 x14 x15 x16 x17 x18 x19 x20) fun y2 => (bif y2 then (some true) else (Option.bind (pat_reader__comma_s0 s0.2.1 x0 s0.2.2.1 x2 x3 x4 x5 x6 x7 x8 s0.2.2.2.1 s0.2.2.2.2 x11 x12 x13 x14 x15 x16 x17 x18 x19 x20) fun y3 => (some y3)))) fun (s3 : Bool) => (bif s3 then (some (.inl ())) else (some (.inr (.inr (s0.1, s0.2.1, s0.2.2.1, s0.2.2.2.1, s0.2.2.2.2)))))) (joinX fun (s5 : Unit) => (Option.bind (pat_reader__eat_s0 44 x0 s0.2.2.1 x2 x3 x4 x5 x6) fun y0 => (bif y0.1 then (some (.inl ((IntKind.wrap .i64 (s0.1 + 1)), 0, y0.2, s0.2.2.2.1, s0.2.2.2.2))) else (Option.bind (Option.bind (pat_reader__eat_s0 48 x0 y0.2 x2 x3 x4 x5 x6) fun y1 => (bif y1.1 then (some (y1.2, s0.2.2.2.1, (IntKind.wrap .i64 (s0.2.2.2.2 + 1)))) else (some ((IntKind.wrap .i64 (y1.2 + 1)), (IntKind.wrap .i64 (s0.2.2.2.1 + 1)), s0.2.2.2.2)))) fun (s2 : Int × Int × Int) => (Option.bind (pat_reader__between_s0 s0.1 (IntKind.wrap .i64 (s0.2.1 + 1)) x0 s2.1 x2 x3 x4 x5 x6 x7 x8 s2.2.1 s2.2.2 x11 x12 x13 x14 x15 x16 x17 x18 x19 x20) fun y4 => (some (.inl (s0.1, (IntKind.wrap .i64 (s0.2.1 + 1)), s2.1, s2.2.1, s2.2.2)))))))))) big (0, 0, x1, x9, x10)) fun (s1 : Int × Int × Int × Int × Int) => (Option.bind (bif (decide ((IntKind.wrap .i64 (s1.2.2.2.1 + s1.2.2.2.2)) = 0)) then none else (some ())) fun (s4 : Unit) => (bif (decide (s1.1 = 0)) then (some (s1.2.2.1, s1.2.2.2.1, s1.2.2.2.2, x13, x14)) else (bif (decide (s1.1 = 1)) then (some (s1.2.2.1, s1.2.2.2.1, s1.2.2.2.2, s1.2.1, s1.2.1)) else none))))
theorem pat_reader__places_s0_ok {x0 : List Int} {x1 : Int} {x2 : Int} {x3 : Int} {x4 : Int} {x5 : Int} {x6 : Int} {x7 : List St106} {x8 : Bool} {x9 : Int} {x10 : Int} {x11 : Int} {x12 : Int} {x13 : Int} {x14 : Int} {x15 : Int} {x16 : Int} {x17 : Int} {x18 : Bool} {x19 : Int} {x20 : Int} {r : Int × Int × Int × Int × Int} (h : pat_reader__places_s0 x0 x1 x2 x3 x4 x5 x6 x7 x8 x9 x10 x11 x12 x13 x14 x15 x16 x17 x18 x19 x20 = some r) : SC Tryz.prog 185 [.ptr 0 0, .ptr 2 0] [.box [lR x0, .mp 1, iL x1, iL x2], .map [(iM 45, iL x3), (iM 43, iL x4), (iM 37, iL x5), (iM 164, iL x6)], .box [lsv encSt106 2 x7, .nl, .nl, .nl, .bool x8, iL x9, iL x10, iL x11, iL x12, iL x13, iL x14, iL x15, iL x16, iL x17, .bool x18, iM x19, iL x20]] (.tup []) [.box [lR x0, .mp 1, iL r.1, iL x2], .map [(iM 45, iL x3), (iM 43, iL x4), (iM 37, iL x5), (iM 164, iL x6)], .box [lsv encSt106 2 x7, .nl, .nl, .nl, .bool x8, iL r.2.1, iL r.2.2.1, iL x11, iL x12, iL r.2.2.2.1, iL r.2.2.2.2, iL x15, iL x16, iL x17, .bool x18, iM x19, iL x20]] := by
 refine kFn (fn := Tryz.f185) (fun F hFn hFH hFD => ?_)
 unfold pat_reader__places_s0 at h
 refine kSR ?_
 refine kC 2 [0,1,4,5] ?_
 refine kEN ?_
 obtain ⟨s1, hy0, h1⟩ := bindS h
 refine K.cutN (by kernel_rfl) (fun (s1 : Int × Int × Int × Int × Int) => ([(0, .ptr 0 0), (1, .ptr 2 0), (4, iL s1.1), (5, iL s1.2.1)], [.box [lR x0, .mp 1, iL s1.2.2.1, iL x2], .map [(iM 45, iL x3), (iM 43, iL x4), (iM 37, iL x5), (iM 164, iL x6)], .box [lsv encSt106 2 x7, .nl, .nl, .nl, .bool x8, iL s1.2.2.2.1, iL s1.2.2.2.2, iL x11, iL x12, iL x13, iL x14, iL x15, iL x16, iL x17, .bool x18, iM x19, iL x20]])) s1 ?_ ?_
 ·refine kb 0 ?_
  refine kl (fun (s0 : Int × Int × Int × Int × Int) => ([(0, .ptr 0 0), (1, .ptr 2 0), (4, iL s0.1), (5, iL s0.2.1)], [.box [lR x0, .mp 1, iL s0.2.2.1, iL x2], .map [(iM 45, iL x3), (iM 43, iL x4), (iM 37, iL x5), (iM 164, iL x6)], .box [lsv encSt106 2 x7, .nl, .nl, .nl, .bool x8, iL s0.2.2.2.1, iL s0.2.2.2.2, iL x11, iL x12, iL x13, iL x14, iL x15, iL x16, iL x17, .bool x18, iM x19, iL x20]])) hy0 [0, 1, 4, 5] (fun s0 x456 hs0 => ?_)
  obtain ⟨y5, hy1, h0⟩ := bindS hs0
  refine K.cutX (by kernel_rfl) (fun (s5 : Unit) => ([(0, .ptr 0 0), (1, .ptr 2 0), (4, iL s0.1), (5, iL s0.2.1)], [.box [lR x0, .mp 1, iL s0.2.2.1, iL x2], .map [(iM 45, iL x3), (iM 43, iL x4), (iM 37, iL x5), (iM 164, iL x6)], .box [lsv encSt106 2 x7, .nl, .nl, .nl, .bool x8, iL s0.2.2.2.1, iL s0.2.2.2.2, iL x11, iL x12, iL x13, iL x14, iL x15, iL x16, iL x17, .bool x18, iM x19, iL x20]])) y5 ?_ (fun s5 hs => ?_)
  ·obtain ⟨s3, hy2, h2⟩ := bindS hy1
   refine K.cutN (by kernel_rfl) (fun (s3 : Bool) => ([(0, .ptr 0 0), (1, .ptr 2 0), (4, iL s0.1), (5, iL s0.2.1), (14, .bool s3)], [.box [lR x0, .mp 1, iL s0.2.2.1, iL x2], .map [(iM 45, iL x3), (iM 43, iL x4), (iM 37, iL x5), (iM 164, iL x6)], .box [lsv encSt106 2 x7, .nl, .nl, .nl, .bool x8, iL s0.2.2.2.1, iL s0.2.2.2.2, iL x11, iL x12, iL x13, iL x14, iL x15, iL x16, iL x17, .bool x18, iM x19, iL x20]])) s3 ?_ ?_
   ·refine kR ?_
    refine kC 2 [0,1,4,5,6,7] ?_
    obtain ⟨y2, hy3, h3⟩ := bindS hy2
    refine kCG (some 8) (args := [.ptr 0 0, .ptr 2 0, iL 0]) (v := .bool y2) (H2 := [.box [lR x0, .mp 1, iL s0.2.2.1, iL x2], .map [(iM 45, iL x3), (iM 43, iL x4), (iM 37, iL x5), (iM 164, iL x6)], .box [lsv encSt106 2 x7, .nl, .nl, .nl, .bool x8, iL s0.2.2.2.1, iL s0.2.2.2.2, iL x11, iL x12, iL x13, iL x14, iL x15, iL x16, iL x17, .bool x18, iM x19, iL x20]]) [0, 1, 2] (pat_reader__place_s0_ok hy3) ?_
    refine kC 1 [0,1,4,5,9] ?_
    refine kB 9 h3 (fun h4 => ?_) (fun h5 => ?_)
    ·refine kC 5 [0,1,4,5,14] ?_
     refine kE ?_
     obtain rfl := oi h4
     exact kN [0, 1, 4, 5, 14]
    ·refine kC 3 [0,1,4,5,9,10,11,12] ?_
     obtain ⟨y3, hy4, h6⟩ := bindS h5
     refine kCG (some 13) (args := [.ptr 0 0, .ptr 2 0, iL s0.2.1]) (v := .bool y3) (H2 := [.box [lR x0, .mp 1, iL s0.2.2.1, iL x2], .map [(iM 45, iL x3), (iM 43, iL x4), (iM 37, iL x5), (iM 164, iL x6)], .box [lsv encSt106 2 x7, .nl, .nl, .nl, .bool x8, iL s0.2.2.2.1, iL s0.2.2.2.2, iL x11, iL x12, iL x13, iL x14, iL x15, iL x16, iL x17, .bool x18, iM x19, iL x20]]) [0, 1, 2] (pat_reader__comma_s0_ok hy4) ?_
     refine kC 1 [0,1,4,5,14] ?_
     refine kE ?_
     obtain rfl := oi h6
     exact kN [0, 1, 4, 5, 14]
   ·refine kBJ 14 h2 (fun h7 => ?_) (fun h8 => ?_)
    ·refine kT ?_
     refine kK ?_
     obtain rfl := oi h7
     exact kXl [0, 1, 4, 5]
    ·refine kF ?_
     refine K.exit 0 (by kernel_rfl) ?_
     obtain rfl := oi h8
     have h9 := joinX_inr h0
     refine PJ.cutXr (fun e => nomatch e) ?_
     obtain rfl := oi h9
     refine PJ.loopOut (fun e => nomatch e) (fun he0 => ?_)
     have h10 := congrArg some he0
     refine PJ.blockOut ?_
     obtain rfl := oi h10
     exact kN [0, 1, 4, 5]
  ·subst hs
   have h11 := joinX_inl h0
   refine kb 1 ?_
   refine kS ?_
   refine kSR ?_
   refine kC 1 [0,1,4,5,15] ?_
   obtain ⟨y0, hy5, h12⟩ := bindS h11
   refine kCG (some 16) (args := [.ptr 0 0, iM 44]) (v := .bool y0.1) (H2 := [.box [lR x0, .mp 1, iL y0.2, iL x2], .map [(iM 45, iL x3), (iM 43, iL x4), (iM 37, iL x5), (iM 164, iL x6)], .box [lsv encSt106 2 x7, .nl, .nl, .nl, .bool x8, iL s0.2.2.2.1, iL s0.2.2.2.2, iL x11, iL x12, iL x13, iL x14, iL x15, iL x16, iL x17, .bool x18, iM x19, iL x20]]) [0, 1] (pat_reader__eat_s0_ok hy5) ?_
   refine kEN ?_
   refine kBJ 16 h12 (fun h13 => ?_) (fun h14 => ?_)
   ·refine kT ?_
    refine kSR ?_
    refine kC 3 [0,1,4,5] ?_
    refine kEN ?_
    refine kSR ?_
    refine kC 1 [0,1,4,5] ?_
    refine kEN ?_
    refine K.exit 1 (by kernel_rfl) ?_
    refine PJ.passExit ?_
    refine PJ.blockOut ?_
    obtain rfl := oi h13
    exact kLN [0, 1, 4, 5]
   ·refine kF ?_
    refine kK ?_
    refine PJ.next ?_
    obtain ⟨s2, hy6, h15⟩ := bindS h14
    refine K.cutN (by kernel_rfl) (fun (s2 : Int × Int × Int) => ([(0, .ptr 0 0), (1, .ptr 2 0), (4, iL s0.1), (5, iL s0.2.1)], [.box [lR x0, .mp 1, iL s2.1, iL x2], .map [(iM 45, iL x3), (iM 43, iL x4), (iM 37, iL x5), (iM 164, iL x6)], .box [lsv encSt106 2 x7, .nl, .nl, .nl, .bool x8, iL s2.2.1, iL s2.2.2, iL x11, iL x12, iL x13, iL x14, iL x15, iL x16, iL x17, .bool x18, iM x19, iL x20]])) s2 ?_ ?_
    ·refine kSR ?_
     refine kC 1 [0,1,4,5,19] ?_
     obtain ⟨y1, hy7, h16⟩ := bindS hy6
     refine kCG (some 20) (args := [.ptr 0 0, iM 48]) (v := .bool y1.1) (H2 := [.box [lR x0, .mp 1, iL y1.2, iL x2], .map [(iM 45, iL x3), (iM 43, iL x4), (iM 37, iL x5), (iM 164, iL x6)], .box [lsv encSt106 2 x7, .nl, .nl, .nl, .bool x8, iL s0.2.2.2.1, iL s0.2.2.2.2, iL x11, iL x12, iL x13, iL x14, iL x15, iL x16, iL x17, .bool x18, iM x19, iL x20]]) [0, 1] (pat_reader__eat_s0_ok hy7) ?_
     refine kEN ?_
     refine kBJ 20 h16 (fun h17 => ?_) (fun h18 => ?_)
     ·refine kT ?_
      refine kR ?_
      refine kC 8 [0,1,4,5] ?_
      refine kE ?_
      obtain rfl := oi h17
      exact kN [0, 1, 4, 5]
     ·refine kF ?_
      refine kSR ?_
      refine kC 8 [0,1,4,5] ?_
      refine kEN ?_
      refine kR ?_
      refine kC 8 [0,1,4,5] ?_
      refine kE ?_
      obtain rfl := oi h18
      exact kN [0, 1, 4, 5]
    ·refine kSR ?_
     refine kC 3 [0,1,4,5] ?_
     refine kEN ?_
     refine kR ?_
     refine kC 4 [0,1,4,5,44,45,46,47] ?_
     obtain ⟨y4, hy8, h19⟩ := bindS h15
     refine kCG (some 48) (args := [.ptr 0 0, .ptr 2 0, iL s0.1, iL (IntKind.wrap .i64 (s0.2.1 + 1))]) (v := .tup []) (H2 := [.box [lR x0, .mp 1, iL s2.1, iL x2], .map [(iM 45, iL x3), (iM 43, iL x4), (iM 37, iL x5), (iM 164, iL x6)], .box [lsv encSt106 2 x7, .nl, .nl, .nl, .bool x8, iL s2.2.1, iL s2.2.2, iL x11, iL x12, iL x13, iL x14, iL x15, iL x16, iL x17, .bool x18, iM x19, iL x20]]) [0, 1, 2] (pat_reader__between_s0_ok hy8) ?_
     refine kE ?_
     refine PJ.blockNormal ?_
     obtain rfl := oi h19
     exact kLN [0, 1, 4, 5]
 ·obtain ⟨s4, hy9, h20⟩ := bindS h1
  refine K.cutN (by kernel_rfl) (fun (s4 : Unit) => ([(1, .ptr 2 0), (4, iL s1.1), (5, iL s1.2.1)], [.box [lR x0, .mp 1, iL s1.2.2.1, iL x2], .map [(iM 45, iL x3), (iM 43, iL x4), (iM 37, iL x5), (iM 164, iL x6)], .box [lsv encSt106 2 x7, .nl, .nl, .nl, .bool x8, iL s1.2.2.2.1, iL s1.2.2.2.2, iL x11, iL x12, iL x13, iL x14, iL x15, iL x16, iL x17, .bool x18, iM x19, iL x20]])) s4 ?_ ?_
  ·refine kS ?_
   refine J.keep [0, 1, 4, 5] (L2 := [(0, .ptr 0 0), (1, .ptr 2 0), (4, iL s1.1), (5, iL s1.2.1)]) (by kernel_rfl) ?_
   refine K.draw (by kernel_rfl) (by kernel_rfl) (by kernel_rfl) (H2 := [.box [lR x0, .mp 1, iL s1.2.2.1, iL x2], .map [(iM 45, iL x3), (iM 43, iL x4), (iM 37, iL x5), (iM 164, iL x6)], .box [lsv encSt106 2 x7, .nl, .nl, .nl, .bool x8, iL s1.2.2.2.1, iL s1.2.2.2.2, iL x11, iL x12, iL x13, iL x14, iL x15, iL x16, iL x17, .bool x18, iM x19, iL x20]]) (by kernel_rfl) (n := 3) (by kernel_rfl) ?_
   refine kD 10 ?_
   refine kEN ?_
   refine cT 58 hy9 (fun h21 => ?_)
   refine kF ?_
   refine kK ?_
   obtain rfl := oi h21
   exact kN [1, 4, 5]
  ·refine kSR ?_
   refine kC 1 [1,5,65] ?_
   refine kEN ?_
   refine kb 2 ?_
   refine kSR ?_
   refine kC 2 [1,5,65,70] ?_
   refine kEN ?_
   refine kBJ 70 h20 (fun h22 => ?_) (fun h23 => ?_)
   ·refine kT ?_
    refine kK ?_
    refine PJ.blockNormal ?_
    obtain rfl := oi h22
    exact K.retV (H0 := [.box [lR x0, .mp 1, iL x1, iL x2], .map [(iM 45, iL x3), (iM 43, iL x4), (iM 37, iL x5), (iM 164, iL x6)], .box [lsv encSt106 2 x7, .nl, .nl, .nl, .bool x8, iL x9, iL x10, iL x11, iL x12, iL x13, iL x14, iL x15, iL x16, iL x17, .bool x18, iM x19, iL x20]]) [0, 1, 2] (.inl rfl) hFn hFH hFD (by kernel_rfl) (v1 := .tup []) (by kernel_rfl) (by kernel_rfl) (by kernel_rfl) (by decide) (by kernel_rfl) (by kernel_rfl) (by kernel_rfl) (by kernel_rfl) (by kernel_rfl)
   ·refine kF ?_
    refine kSR ?_
    refine kC 2 [1,5,72] ?_
    refine kEN ?_
    refine cF 72 h23 (fun h24 => ?_)
    refine kT ?_
    refine kR ?_
    refine kC 10 [] ?_
    refine kE ?_
    refine PJ.blockNormal ?_
    obtain rfl := oi h24
    exact K.retV (H0 := [.box [lR x0, .mp 1, iL x1, iL x2], .map [(iM 45, iL x3), (iM 43, iL x4), (iM 37, iL x5), (iM 164, iL x6)], .box [lsv encSt106 2 x7, .nl, .nl, .nl, .bool x8, iL x9, iL x10, iL x11, iL x12, iL x13, iL x14, iL x15, iL x16, iL x17, .bool x18, iM x19, iL x20]]) [0, 1, 2] (.inl rfl) hFn hFH hFD (by kernel_rfl) (v1 := .tup []) (by kernel_rfl) (by kernel_rfl) (by kernel_rfl) (by decide) (by kernel_rfl) (by kernel_rfl) (by kernel_rfl) (by kernel_rfl) (by kernel_rfl)
def pat_reader__fraction_s0 (x0 : List Int) (x1 : Int) (x2 : Int) (x3 : Int) (x4 : Int) (x5 : Int) (x6 : Int) (x7 : List St106) (x8 : Bool) (x9 : Int) (x10 : Int) (x11 : Int) (x12 : Int) (x13 : Int) (x14 : Int) (x15 : Int) (x16 : Int) (x17 : Int) (x18 : Bool) (x19 : Int) (x20 : Int) : Option (Int × Int × Int) :=
 (Option.bind (pat_reader__eat_s0 46 x0 x1 x2 x3 x4 x5 x6) fun y2 => (bif (!y2.1) then (some (y2.2, x11, x12)) else (Option.bind (pat_reader__many_s0 48 x0 y2.2 x2 x3 x4 x5 x6) fun y0 => (Option.bind (pat_reader__many_s0 35 x0 y0.2 x2 x3 x4 x5 x6) fun y1 => (bif (decide ((IntKind.wrap .i64 (y0.1 + y1.1)) = 0)) then none else (some (y1.2, y0.1, (IntKind.wrap .i64 (y0.1 + y1.1)))))))))
theorem pat_reader__fraction_s0_ok {x0 : List Int} {x1 : Int} {x2 : Int} {x3 : Int} {x4 : Int} {x5 : Int} {x6 : Int} {x7 : List St106} {x8 : Bool} {x9 : Int} {x10 : Int} {x11 : Int} {x12 : Int} {x13 : Int} {x14 : Int} {x15 : Int} {x16 : Int} {x17 : Int} {x18 : Bool} {x19 : Int} {x20 : Int} {r : Int × Int × Int} (h : pat_reader__fraction_s0 x0 x1 x2 x3 x4 x5 x6 x7 x8 x9 x10 x11 x12 x13 x14 x15 x16 x17 x18 x19 x20 = some r) : SC Tryz.prog 186 [.ptr 0 0, .ptr 2 0] [.box [lR x0, .mp 1, iL x1, iL x2], .map [(iM 45, iL x3), (iM 43, iL x4), (iM 37, iL x5), (iM 164, iL x6)], .box [lsv encSt106 2 x7, .nl, .nl, .nl, .bool x8, iL x9, iL x10, iL x11, iL x12, iL x13, iL x14, iL x15, iL x16, iL x17, .bool x18, iM x19, iL x20]] (.tup []) [.box [lR x0, .mp 1, iL r.1, iL x2], .map [(iM 45, iL x3), (iM 43, iL x4), (iM 37, iL x5), (iM 164, iL x6)], .box [lsv encSt106 2 x7, .nl, .nl, .nl, .bool x8, iL x9, iL x10, iL r.2.1, iL r.2.2, iL x13, iL x14, iL x15, iL x16, iL x17, .bool x18, iM x19, iL x20]] := by
 refine kFn (fn := Tryz.f186) (fun F hFn hFH hFD => ?_)
 unfold pat_reader__fraction_s0 at h
 refine kS ?_
 refine kSR ?_
 refine kC 1 [0,1,4] ?_
 obtain ⟨y2, hy0, h0⟩ := bindS h
 refine kCG (some 5) (args := [.ptr 0 0, iM 46]) (v := .bool y2.1) (H2 := [.box [lR x0, .mp 1, iL y2.2, iL x2], .map [(iM 45, iL x3), (iM 43, iL x4), (iM 37, iL x5), (iM 164, iL x6)], .box [lsv encSt106 2 x7, .nl, .nl, .nl, .bool x8, iL x9, iL x10, iL x11, iL x12, iL x13, iL x14, iL x15, iL x16, iL x17, .bool x18, iM x19, iL x20]]) [0, 1] (pat_reader__eat_s0_ok hy0) ?_
 refine kC 1 [0,1,6] ?_
 refine kEN ?_
 refine kBJ 6 h0 (fun h1 => ?_) (fun h2 => ?_)
 ·refine kT ?_
  refine kX ?_
  refine PJ.passRet ?_
  obtain rfl := oi h1
  exact kV [0, 1, 2] hFn hFH hFD (v1 := .tup [])
 ·refine kF ?_
  refine kK ?_
  refine PJ.next ?_
  refine kSR ?_
  refine kC 2 [0,1,7,8] ?_
  obtain ⟨y0, hy1, h3⟩ := bindS h2
  refine kCG (some 9) (args := [.ptr 0 0, iM 48]) (v := iL y0.1) (H2 := [.box [lR x0, .mp 1, iL y0.2, iL x2], .map [(iM 45, iL x3), (iM 43, iL x4), (iM 37, iL x5), (iM 164, iL x6)], .box [lsv encSt106 2 x7, .nl, .nl, .nl, .bool x8, iL x9, iL x10, iL x11, iL x12, iL x13, iL x14, iL x15, iL x16, iL x17, .bool x18, iM x19, iL x20]]) [0, 1] (pat_reader__many_s0_ok hy1) ?_
  refine kC 3 [0,1] ?_
  refine kEN ?_
  refine kS ?_
  refine J.keep [0, 1] (L2 := [(0, .ptr 0 0), (1, .ptr 2 0)]) (by kernel_rfl) ?_
  refine K.draw (by kernel_rfl) (by kernel_rfl) (by kernel_rfl) (H2 := [.box [lR x0, .mp 1, iL y0.2, iL x2], .map [(iM 45, iL x3), (iM 43, iL x4), (iM 37, iL x5), (iM 164, iL x6)], .box [lsv encSt106 2 x7, .nl, .nl, .nl, .bool x8, iL x9, iL x10, iL y0.1, iL x12, iL x13, iL x14, iL x15, iL x16, iL x17, .bool x18, iM x19, iL x20], .res]) (by kernel_rfl) (n := 3) (by kernel_rfl) ?_
  refine kD 6 ?_
  obtain ⟨y1, hy2, h4⟩ := bindS h3
  refine RJ.callWr (d := (some 18)) (f := 184) (args := [.ptr 0 0, iM 35]) (args0 := [.ptr 0 0, iM 35]) (v0 := iL y1.1) (v := iL y1.1) (tr2 := [([], []), ([], []), ([], []), ([], []), ([4, 5], []), ([], []), ([0, 1, 2, 3], [0, 1, 2, 3, 6, 7])]) (H0 := [.box [lR x0, .mp 1, iL y0.2, iL x2], .map [(iM 45, iL x3), (iM 43, iL x4), (iM 37, iL x5), (iM 164, iL x6)]]) (H0' := [.box [lR x0, .mp 1, iL y1.2, iL x2], .map [(iM 45, iL x3), (iM 43, iL x4), (iM 37, iL x5), (iM 164, iL x6)]]) (H2 := [.box [lR x0, .mp 1, iL y1.2, iL x2], .map [(iM 45, iL x3), (iM 43, iL x4), (iM 37, iL x5), (iM 164, iL x6)], .box [lsv encSt106 2 x7, .nl, .nl, .nl, .bool x8, iL x9, iL x10, iL y0.1, iL x12, iL x13, iL x14, iL x15, iL x16, iL x17, .bool x18, iM x19, iL x20], .res]) [0, 1] (by kernel_rfl) (by kernel_rfl) (by kernel_rfl) (by kernel_rfl) (by decide) (by kernel_rfl) (by kernel_rfl) (by kernel_rfl) (.cons (Le.refl _) (.cons (Le.refl _) .nil)) (pat_reader__many_s0_ok hy2) (by kernel_rfl) (by kernel_rfl) (by kernel_rfl) (by kernel_rfl) (by kernel_rfl) ?_
  refine kD 4 ?_
  refine kEN ?_
  refine kSR ?_
  refine kC 5 [0,26] ?_
  refine kEN ?_
  refine cT 26 h4 (fun h5 => ?_)
  refine kF ?_
  refine kK ?_
  obtain rfl := oi h5
  exact K.retV (H0 := [.box [lR x0, .mp 1, iL x1, iL x2], .map [(iM 45, iL x3), (iM 43, iL x4), (iM 37, iL x5), (iM 164, iL x6)], .box [lsv encSt106 2 x7, .nl, .nl, .nl, .bool x8, iL x9, iL x10, iL x11, iL x12, iL x13, iL x14, iL x15, iL x16, iL x17, .bool x18, iM x19, iL x20]]) [0, 1, 2] (.inl rfl) hFn hFH hFD (by kernel_rfl) (v1 := .tup []) (by kernel_rfl) (by kernel_rfl) (by kernel_rfl) (by decide) (by kernel_rfl) (by kernel_rfl) (by kernel_rfl) (by kernel_rfl) (by kernel_rfl)
def pat_reader__number_s0 (x0 : List Int) (x1 : Int) (x2 : Int) (x3 : Int) (x4 : Int) (x5 : Int) (x6 : Int) (x7 : List St106) (x8 : Bool) (x9 : Int) (x10 : Int) (x11 : Int) (x12 : Int) (x13 : Int) (x14 : Int) (x15 : Int) (x16 : Int) (x17 : Int) (x18 : Bool) (x19 : Int) (x20 : Int) : Option (Int × Int × Int × Int × Int × Int × Int × Int × Int × Bool) :=
 (Option.bind (pat_reader__many_s0 64 x0 x1 x2 x3 x4 x5 x6) fun y1 => (Option.bind (bif (decide (y1.1 > 0)) then none else (Option.bind (pat_reader__places_s0 x0 y1.2 x2 x3 x4 x5 x6 x7 x8 x9 x10 x11 x12 x13 x14 y1.1 x16 x17 x18 x19 x20) fun y0 => (Option.bind (pat_reader__fraction_s0 x0 y0.1 x2 x3 x4 x5 x6 x7 x8 y0.2.1 y0.2.2.1 x11 x12 y0.2.2.2.1 y0.2.2.2.2 y1.1 x16 x17 x18 x19 x20) fun y2 => (some (y2.1, y0.2.1, y0.2.2.1, y2.2.1, y2.2.2, y0.2.2.2.1, y0.2.2.2.2))))) fun (s0 : Int × Int × Int × Int × Int × Int × Int) => (Option.bind (pat_reader__eat_s0 69 x0 s0.1 x2 x3 x4 x5 x6) fun y3 => (bif (!y3.1) then (some (y3.2, s0.2.1, s0.2.2.1, s0.2.2.2.1, s0.2.2.2.2.1, s0.2.2.2.2.2.1, s0.2.2.2.2.2.2, y1.1, x17, x18)) else (Option.bind (pat_reader__eat_s0 43 x0 y3.2 x2 x3 x4 x5 x6) fun y4 => (Option.bind (pat_reader__many_s0 48 x0 y4.2 x2 x3 x4 x5 x6) fun y5 => (bif (decide (y5.1 = 0)) then none else (some (y5.2, s0.2.1, s0.2.2.1, s0.2.2.2.1, s0.2.2.2.2.1, s0.2.2.2.2.2.1, s0.2.2.2.2.2.2, y1.1, y5.1, y4.1)))))))))
theorem pat_reader__number_s0_ok {x0 : List Int} {x1 : Int} {x2 : Int} {x3 : Int} {x4 : Int} {x5 : Int} {x6 : Int} {x7 : List St106} {x8 : Bool} {x9 : Int} {x10 : Int} {x11 : Int} {x12 : Int} {x13 : Int} {x14 : Int} {x15 : Int} {x16 : Int} {x17 : Int} {x18 : Bool} {x19 : Int} {x20 : Int} {r : Int × Int × Int × Int × Int × Int × Int × Int × Int × Bool} (h : pat_reader__number_s0 x0 x1 x2 x3 x4 x5 x6 x7 x8 x9 x10 x11 x12 x13 x14 x15 x16 x17 x18 x19 x20 = some r) : SC Tryz.prog 164 [.ptr 0 0, .ptr 2 0] [.box [lR x0, .mp 1, iL x1, iL x2], .map [(iM 45, iL x3), (iM 43, iL x4), (iM 37, iL x5), (iM 164, iL x6)], .box [lsv encSt106 2 x7, .nl, .nl, .nl, .bool x8, iL x9, iL x10, iL x11, iL x12, iL x13, iL x14, iL x15, iL x16, iL x17, .bool x18, iM x19, iL x20]] (.tup []) [.box [lR x0, .mp 1, iL r.1, iL x2], .map [(iM 45, iL x3), (iM 43, iL x4), (iM 37, iL x5), (iM 164, iL x6)], .box [lsv encSt106 2 x7, .nl, .nl, .nl, .bool x8, iL r.2.1, iL r.2.2.1, iL r.2.2.2.1, iL r.2.2.2.2.1, iL r.2.2.2.2.2.1, iL r.2.2.2.2.2.2.1, iL r.2.2.2.2.2.2.2.1, iL x16, iL r.2.2.2.2.2.2.2.2.1, .bool r.2.2.2.2.2.2.2.2.2, iM x19, iL x20]] := by
 refine kFn (fn := Tryz.f164) (fun F hFn hFH hFD => ?_)
 unfold pat_reader__number_s0 at h
 refine kSR ?_
 refine kC 2 [0,1,4,5] ?_
 obtain ⟨y1, hy0, h0⟩ := bindS h
 refine kCG (some 6) (args := [.ptr 0 0, iM 64]) (v := iL y1.1) (H2 := [.box [lR x0, .mp 1, iL y1.2, iL x2], .map [(iM 45, iL x3), (iM 43, iL x4), (iM 37, iL x5), (iM 164, iL x6)], .box [lsv encSt106 2 x7, .nl, .nl, .nl, .bool x8, iL x9, iL x10, iL x11, iL x12, iL x13, iL x14, iL x15, iL x16, iL x17, .bool x18, iM x19, iL x20]]) [0, 1] (pat_reader__many_s0_ok hy0) ?_
 refine kC 3 [0,1] ?_
 refine kEN ?_
 obtain ⟨s0, hy1, h1⟩ := bindS h0
 refine K.cutN (by kernel_rfl) (fun (s0 : Int × Int × Int × Int × Int × Int × Int) => ([(0, .ptr 0 0), (1, .ptr 2 0)], [.box [lR x0, .mp 1, iL s0.1, iL x2], .map [(iM 45, iL x3), (iM 43, iL x4), (iM 37, iL x5), (iM 164, iL x6)], .box [lsv encSt106 2 x7, .nl, .nl, .nl, .bool x8, iL s0.2.1, iL s0.2.2.1, iL s0.2.2.2.1, iL s0.2.2.2.2.1, iL s0.2.2.2.2.2.1, iL s0.2.2.2.2.2.2, iL y1.1, iL x16, iL x17, .bool x18, iM x19, iL x20]])) s0 ?_ ?_
 ·refine kSR ?_
  refine kC 5 [0,1,13] ?_
  refine kEN ?_
  refine cT 13 hy1 (fun h2 => ?_)
  refine kF ?_
  refine kSR ?_
  refine kC 2 [0,1,24,25] ?_
  obtain ⟨y0, hy2, h3⟩ := bindS h2
  refine kCG (some 26) (args := [.ptr 0 0, .ptr 2 0]) (v := .tup []) (H2 := [.box [lR x0, .mp 1, iL y0.1, iL x2], .map [(iM 45, iL x3), (iM 43, iL x4), (iM 37, iL x5), (iM 164, iL x6)], .box [lsv encSt106 2 x7, .nl, .nl, .nl, .bool x8, iL y0.2.1, iL y0.2.2.1, iL x11, iL x12, iL y0.2.2.2.1, iL y0.2.2.2.2, iL y1.1, iL x16, iL x17, .bool x18, iM x19, iL x20]]) [0, 1, 2] (pat_reader__places_s0_ok hy2) ?_
  refine kEN ?_
  refine kR ?_
  refine kC 2 [0,1,27,28] ?_
  obtain ⟨y2, hy3, h4⟩ := bindS h3
  refine kCG (some 29) (args := [.ptr 0 0, .ptr 2 0]) (v := .tup []) (H2 := [.box [lR x0, .mp 1, iL y2.1, iL x2], .map [(iM 45, iL x3), (iM 43, iL x4), (iM 37, iL x5), (iM 164, iL x6)], .box [lsv encSt106 2 x7, .nl, .nl, .nl, .bool x8, iL y0.2.1, iL y0.2.2.1, iL y2.2.1, iL y2.2.2, iL y0.2.2.2.1, iL y0.2.2.2.2, iL y1.1, iL x16, iL x17, .bool x18, iM x19, iL x20]]) [0, 1, 2] (pat_reader__fraction_s0_ok hy3) ?_
  refine kE ?_
  obtain rfl := oi h4
  exact kN [0, 1]
 ·refine kS ?_
  refine kSR ?_
  refine kC 1 [0,1,30] ?_
  obtain ⟨y3, hy4, h5⟩ := bindS h1
  refine kCG (some 31) (args := [.ptr 0 0, iM 69]) (v := .bool y3.1) (H2 := [.box [lR x0, .mp 1, iL y3.2, iL x2], .map [(iM 45, iL x3), (iM 43, iL x4), (iM 37, iL x5), (iM 164, iL x6)], .box [lsv encSt106 2 x7, .nl, .nl, .nl, .bool x8, iL s0.2.1, iL s0.2.2.1, iL s0.2.2.2.1, iL s0.2.2.2.2.1, iL s0.2.2.2.2.2.1, iL s0.2.2.2.2.2.2, iL y1.1, iL x16, iL x17, .bool x18, iM x19, iL x20]]) [0, 1] (pat_reader__eat_s0_ok hy4) ?_
  refine kC 1 [0,1,32] ?_
  refine kEN ?_
  refine kBJ 32 h5 (fun h6 => ?_) (fun h7 => ?_)
  ·refine kT ?_
   refine kX ?_
   refine PJ.passRet ?_
   obtain rfl := oi h6
   exact kV [0, 1, 2] hFn hFH hFD (v1 := .tup [])
  ·refine kF ?_
   refine kK ?_
   refine PJ.next ?_
   refine kSR ?_
   refine kC 2 [0,1,33,34] ?_
   obtain ⟨y4, hy5, h8⟩ := bindS h7
   refine kCG (some 35) (args := [.ptr 0 0, iM 43]) (v := .bool y4.1) (H2 := [.box [lR x0, .mp 1, iL y4.2, iL x2], .map [(iM 45, iL x3), (iM 43, iL x4), (iM 37, iL x5), (iM 164, iL x6)], .box [lsv encSt106 2 x7, .nl, .nl, .nl, .bool x8, iL s0.2.1, iL s0.2.2.1, iL s0.2.2.2.1, iL s0.2.2.2.2.1, iL s0.2.2.2.2.2.1, iL s0.2.2.2.2.2.2, iL y1.1, iL x16, iL x17, .bool x18, iM x19, iL x20]]) [0, 1] (pat_reader__eat_s0_ok hy5) ?_
   refine kC 3 [0,1] ?_
   refine kEN ?_
   refine kSR ?_
   refine kC 2 [0,1,38,39] ?_
   obtain ⟨y5, hy6, h9⟩ := bindS h8
   refine kCG (some 40) (args := [.ptr 0 0, iM 48]) (v := iL y5.1) (H2 := [.box [lR x0, .mp 1, iL y5.2, iL x2], .map [(iM 45, iL x3), (iM 43, iL x4), (iM 37, iL x5), (iM 164, iL x6)], .box [lsv encSt106 2 x7, .nl, .nl, .nl, .bool x8, iL s0.2.1, iL s0.2.2.1, iL s0.2.2.2.1, iL s0.2.2.2.2.1, iL s0.2.2.2.2.2.1, iL s0.2.2.2.2.2.2, iL y1.1, iL x16, iL x17, .bool y4.1, iM x19, iL x20]]) [0, 1] (pat_reader__many_s0_ok hy6) ?_
   refine kC 3 [0,1] ?_
   refine kEN ?_
   refine kSR ?_
   refine kC 5 [0,47] ?_
   refine kEN ?_
   refine cT 47 h9 (fun h10 => ?_)
   refine kF ?_
   refine kK ?_
   obtain rfl := oi h10
   exact K.retV (H0 := [.box [lR x0, .mp 1, iL x1, iL x2], .map [(iM 45, iL x3), (iM 43, iL x4), (iM 37, iL x5), (iM 164, iL x6)], .box [lsv encSt106 2 x7, .nl, .nl, .nl, .bool x8, iL x9, iL x10, iL x11, iL x12, iL x13, iL x14, iL x15, iL x16, iL x17, .bool x18, iM x19, iL x20]]) [0, 1, 2] (.inl rfl) hFn hFH hFD (by kernel_rfl) (v1 := .tup []) (by kernel_rfl) (by kernel_rfl) (by kernel_rfl) (by decide) (by kernel_rfl) (by kernel_rfl) (by kernel_rfl) (by kernel_rfl) (by kernel_rfl)
def pat_reader__pad_s2 (x0 : Int) (x1 : List Int) (x2 : Int) (x3 : Int) (x4 : Int) (x5 : Int) (x6 : Int) (x7 : Int) (x8 : List St106) (x9 : List St106) (x10 : Bool) (x11 : Int) (x12 : Int) (x13 : Int) (x14 : Int) (x15 : Int) (x16 : Int) (x17 : Int) (x18 : Int) (x19 : Int) (x20 : Bool) (x21 : Int) (x22 : Int) : Option (Int) :=
 (Option.bind (bif (decide (¬ x22 = 0)) then none else (Option.bind (pat_reader__eat_s0 42 x1 x2 x3 x4 x5 x6 x7) fun y0 => (some ((!y0.1), y0.2)))) fun (s0 : Bool × Int) => (bif s0.1 then (some s0.2) else none))
theorem pat_reader__pad_s2_ok {x0 : Int} {x1 : List Int} {x2 : Int} {x3 : Int} {x4 : Int} {x5 : Int} {x6 : Int} {x7 : Int} {x8 : List St106} {x9 : List St106} {x10 : Bool} {x11 : Int} {x12 : Int} {x13 : Int} {x14 : Int} {x15 : Int} {x16 : Int} {x17 : Int} {x18 : Int} {x19 : Int} {x20 : Bool} {x21 : Int} {x22 : Int} {r : Int} (h : pat_reader__pad_s2 x0 x1 x2 x3 x4 x5 x6 x7 x8 x9 x10 x11 x12 x13 x14 x15 x16 x17 x18 x19 x20 x21 x22 = some r) : SC Tryz.prog 162 [.ptr 0 0, .ptr 2 0, iL x0] [.box [lR x1, .mp 1, iL x2, iL x3], .map [(iM 45, iL x4), (iM 43, iL x5), (iM 37, iL x6), (iM 164, iL x7)], .box [lsv encSt106 2 x8, lsv encSt106 2 x9, .nl, .nl, .bool x10, iL x11, iL x12, iL x13, iL x14, iL x15, iL x16, iL x17, iL x18, iL x19, .bool x20, iM x21, iL x22]] (.tup []) [.box [lR x1, .mp 1, iL r, iL x3], .map [(iM 45, iL x4), (iM 43, iL x5), (iM 37, iL x6), (iM 164, iL x7)], .box [lsv encSt106 2 x8, lsv encSt106 2 x9, .nl, .nl, .bool x10, iL x11, iL x12, iL x13, iL x14, iL x15, iL x16, iL x17, iL x18, iL x19, .bool x20, iM x21, iL x22]] := by
 refine kFn (fn := Tryz.f162) (fun F hFn hFH hFD => ?_)
 unfold pat_reader__pad_s2 at h
 refine kS ?_
 obtain ⟨s0, hy0, h0⟩ := bindS h
 refine K.cutN (by kernel_rfl) (fun (s0 : Bool × Int) => ([(0, .ptr 0 0), (1, .ptr 2 0), (2, iL x0), (15, .bool s0.1)], [.box [lR x1, .mp 1, iL s0.2, iL x3], .map [(iM 45, iL x4), (iM 43, iL x5), (iM 37, iL x6), (iM 164, iL x7)], .box [lsv encSt106 2 x8, lsv encSt106 2 x9, .nl, .nl, .bool x10, iL x11, iL x12, iL x13, iL x14, iL x15, iL x16, iL x17, iL x18, iL x19, .bool x20, iM x21, iL x22]])) s0 ?_ ?_
 ·refine kR ?_
  refine kC 6 [0,1,2,11] ?_
  refine cTR 11 hy0 (fun h1 => ?_)
  refine kC 1 [0,1,2,11,12] ?_
  obtain ⟨y0, hy1, h2⟩ := bindS h1
  refine kCG (some 13) (args := [.ptr 0 0, iM 42]) (v := .bool y0.1) (H2 := [.box [lR x1, .mp 1, iL y0.2, iL x3], .map [(iM 45, iL x4), (iM 43, iL x5), (iM 37, iL x6), (iM 164, iL x7)], .box [lsv encSt106 2 x8, lsv encSt106 2 x9, .nl, .nl, .bool x10, iL x11, iL x12, iL x13, iL x14, iL x15, iL x16, iL x17, iL x18, iL x19, .bool x20, iM x21, iL x22]]) [0, 1] (pat_reader__eat_s0_ok hy1) ?_
  refine kC 2 [0,1,2,15] ?_
  refine kE ?_
  obtain rfl := oi h2
  exact kN [0, 1, 2, 15]
 ·refine cF 15 h0 (fun h3 => ?_)
  refine kT ?_
  refine kX ?_
  refine PJ.passRet ?_
  obtain rfl := oi h3
  exact kV [0, 1, 2] hFn hFH hFD (v1 := .tup [])
def pat_reader__pattern_s0 (x0 : List Int) (x1 : Int) (x2 : Int) (x3 : Int) (x4 : Int) (x5 : Int) (x6 : Int) : Option (St32 × Int) :=
 (Option.bind (pat_reader__pad_s0 1 x0 x1 x2 x3 x4 x5 x6 false 0 0 0 0 0 0 0 0 0 false 0 0) fun y4 => (Option.bind (pat_reader__affix_s0 x0 y4 x2 x3 x4 x5 x6) fun y1 => (Option.bind (bif (decide ((y1.1.length : Int) > 0)) then (Option.bind (pat_reader__pad_s1 2 x0 y1.2 x2 x3 x4 x5 x6 y1.1 false 0 0 0 0 0 0 0 0 0 false 0 0) fun y5 => (some y5)) else (some y1.2)) fun (s0 : Int) => (Option.bind (pat_reader__number_s0 x0 s0 x2 x3 x4 x5 x6 y1.1 false 0 0 0 0 0 0 0 0 0 false 0 0) fun y0 => (bif inS s0 y0.1 x0.length then (Option.bind (pat_reader__pad_s1 3 x0 y0.1 x2 x3 x4 x5 x6 y1.1 false y0.2.1 y0.2.2.1 y0.2.2.2.1 y0.2.2.2.2.1 y0.2.2.2.2.2.1 y0.2.2.2.2.2.2.1 y0.2.2.2.2.2.2.2.1 0 y0.2.2.2.2.2.2.2.2.1 y0.2.2.2.2.2.2.2.2.2 0 0) fun y6 => (Option.bind (pat_reader__affix_s0 x0 y6 x2 x3 x4 x5 x6) fun y2 => (Option.bind (bif (decide ((y2.1.length : Int) > 0)) then (Option.bind (pat_reader__pad_s2 4 x0 y2.2 x2 x3 x4 x5 x6 y1.1 y2.1 false y0.2.1 y0.2.2.1 y0.2.2.2.1 y0.2.2.2.2.1 y0.2.2.2.2.2.1 y0.2.2.2.2.2.2.1 y0.2.2.2.2.2.2.2.1 0 y0.2.2.2.2.2.2.2.2.1 y0.2.2.2.2.2.2.2.2.2 0 0) fun y7 => (some y7)) else (some y2.2)) fun (s2 : Int) => (Option.bind (Option.bind (pat_reader__eat_s0 59 x0 s2 x2 x3 x4 x5 x6) fun y3 => (bif y3.1 then none else (some y3.2))) fun (s1 : Int) => (Option.bind (bif (decide (s1 < (x0.length : Int))) then none else (some ())) fun (s3 : Unit) => (some ((⟨y1.1, y2.1, ([] : List St106), ([] : List St106), false, y0.2.1, y0.2.2.1, y0.2.2.2.1, y0.2.2.2.2.1, y0.2.2.2.2.2.1, y0.2.2.2.2.2.2.1, y0.2.2.2.2.2.2.2.1, 0, y0.2.2.2.2.2.2.2.2.1, y0.2.2.2.2.2.2.2.2.2, 0, 0⟩ : St32), s1))))))) else none)))))
theorem pat_reader__pattern_s0_ok {x0 : List Int} {x1 : Int} {x2 : Int} {x3 : Int} {x4 : Int} {x5 : Int} {x6 : Int} {r : St32 × Int} (h : pat_reader__pattern_s0 x0 x1 x2 x3 x4 x5 x6 = some r) : SC Tryz.prog 144 [.ptr 0 0] [.box [lR x0, .mp 1, iL x1, iL x2], .map [(iM 45, iL x3), (iM 43, iL x4), (iM 37, iL x5), (iM 164, iL x6)]] (.agg (encSt32 r.1)) [.box [lR x0, .mp 1, iL r.2, iL x2], .map [(iM 45, iL x3), (iM 43, iL x4), (iM 37, iL x5), (iM 164, iL x6)]] := by
 refine kFn (fn := Tryz.f144) (fun F hFn hFH hFD => ?_)
 unfold pat_reader__pattern_s0 at h
 refine kSR ?_
 refine kC 1 [0,2] ?_
 refine kEN ?_
 refine kSR ?_
 refine kC 1 [0,2,3] ?_
 refine kEN ?_
 refine kSR ?_
 refine kC 1 [0,2,3,6] ?_
 obtain ⟨y4, hy0, h0⟩ := bindS h
 refine kCG (some 7) (args := [.ptr 0 0, .ptr 3 0, iL 1]) (v := .tup []) (H2 := [.box [lR x0, .mp 1, iL y4, iL x2], .map [(iM 45, iL x3), (iM 43, iL x4), (iM 37, iL x5), (iM 164, iL x6)], .box [.nl, .nl, .nl, .nl, .bool false, iL 0, iL 0, iL 0, iL 0, iL 0, iL 0, iL 0, iL 0, iL 0, .bool false, iM 0, iL 0], .box [.nl, .nl, .nl, .nl, .bool false, iL 0, iL 0, iL 0, iL 0, iL 0, iL 0, iL 0, iL 0, iL 0, .bool false, iM 0, iL 0]]) [0, 1, 3] (pat_reader__pad_s0_ok hy0) ?_
 refine kEN ?_
 refine kSR ?_
 refine kC 1 [0,2,3,8] ?_
 obtain ⟨y1, hy1, h1⟩ := bindS h0
 refine kCG (some 9) (args := [.ptr 0 0]) (v := lsv encSt106 2 y1.1) (H2 := [.box [lR x0, .mp 1, iL y1.2, iL x2], .map [(iM 45, iL x3), (iM 43, iL x4), (iM 37, iL x5), (iM 164, iL x6)], .box [.nl, .nl, .nl, .nl, .bool false, iL 0, iL 0, iL 0, iL 0, iL 0, iL 0, iL 0, iL 0, iL 0, .bool false, iM 0, iL 0], .box [.nl, .nl, .nl, .nl, .bool false, iL 0, iL 0, iL 0, iL 0, iL 0, iL 0, iL 0, iL 0, iL 0, .bool false, iM 0, iL 0]]) [0, 1] (pat_reader__affix_s0_ok hy1) ?_
 refine kC 2 [0,2,3] ?_
 refine kEN ?_
 obtain ⟨s0, hy2, h2⟩ := bindS h1
 refine K.cutN (by kernel_rfl) (fun (s0 : Int) => ([(0, .ptr 0 0), (2, .ptr 2 0), (3, .ptr 3 0)], [.box [lR x0, .mp 1, iL s0, iL x2], .map [(iM 45, iL x3), (iM 43, iL x4), (iM 37, iL x5), (iM 164, iL x6)], .box [.nl, .nl, .nl, .nl, .bool false, iL 0, iL 0, iL 0, iL 0, iL 0, iL 0, iL 0, iL 0, iL 0, .bool false, iM 0, iL 0], .box [lsv encSt106 2 y1.1, .nl, .nl, .nl, .bool false, iL 0, iL 0, iL 0, iL 0, iL 0, iL 0, iL 0, iL 0, iL 0, .bool false, iM 0, iL 0]])) s0 ?_ ?_
 ·refine kSR ?_
  refine kC 4 [0,2,3,14] ?_
  refine kEN ?_
  refine kBJ 14 hy2 (fun h3 => ?_) (fun h4 => ?_)
  ·refine kT ?_
   refine kR ?_
   refine kC 1 [0,2,3,15] ?_
   obtain ⟨y5, hy3, h5⟩ := bindS h3
   refine kCG (some 16) (args := [.ptr 0 0, .ptr 3 0, iL 2]) (v := .tup []) (H2 := [.box [lR x0, .mp 1, iL y5, iL x2], .map [(iM 45, iL x3), (iM 43, iL x4), (iM 37, iL x5), (iM 164, iL x6)], .box [.nl, .nl, .nl, .nl, .bool false, iL 0, iL 0, iL 0, iL 0, iL 0, iL 0, iL 0, iL 0, iL 0, .bool false, iM 0, iL 0], .box [lsv encSt106 2 y1.1, .nl, .nl, .nl, .bool false, iL 0, iL 0, iL 0, iL 0, iL 0, iL 0, iL 0, iL 0, iL 0, .bool false, iM 0, iL 0]]) [0, 1, 3] (pat_reader__pad_s1_ok hy3) ?_
   refine kE ?_
   obtain rfl := oi h5
   exact kN [0, 2, 3]
  ·refine kF ?_
   refine kK ?_
   obtain rfl := oi h4
   exact kN [0, 2, 3]
 ·refine kSR ?_
  refine kC 5 [0,2,3,4] ?_
  refine kEN ?_
  refine kSR ?_
  refine kC 1 [0,2,3,4,21] ?_
  obtain ⟨y0, hy4, h6⟩ := bindS h2
  refine kCG (some 22) (args := [.ptr 0 0, .ptr 3 0]) (v := .tup []) (H2 := [.box [lR x0, .mp 1, iL y0.1, iL x2], .map [(iM 45, iL x3), (iM 43, iL x4), (iM 37, iL x5), (iM 164, iL x6)], .box [.nl, .nl, .nl, .nl, .bool false, iL 0, iL 0, iL 0, iL 0, iL 0, iL 0, iL 0, iL 0, iL 0, .bool false, iM 0, iL 0], .box [lsv encSt106 2 y1.1, .nl, .nl, .nl, .bool false, iL y0.2.1, iL y0.2.2.1, iL y0.2.2.2.1, iL y0.2.2.2.2.1, iL y0.2.2.2.2.2.1, iL y0.2.2.2.2.2.2.1, iL y0.2.2.2.2.2.2.2.1, iL 0, iL y0.2.2.2.2.2.2.2.2.1, .bool y0.2.2.2.2.2.2.2.2.2, iM 0, iL 0]]) [0, 1, 3] (pat_reader__number_s0_ok hy4) ?_
  refine kEN ?_
  refine kS ?_
  refine J.keep [0, 2, 3, 4] (L2 := [(0, .ptr 0 0), (2, .ptr 2 0), (3, .ptr 3 0), (4, iL s0)]) (by kernel_rfl) ?_
  refine K.draw (by kernel_rfl) (by kernel_rfl) (by kernel_rfl) (H2 := [.box [lR x0, .mp 1, iL y0.1, iL x2], .map [(iM 45, iL x3), (iM 43, iL x4), (iM 37, iL x5), (iM 164, iL x6)], .box [.nl, .nl, .nl, .nl, .bool false, iL 0, iL 0, iL 0, iL 0, iL 0, iL 0, iL 0, iL 0, iL 0, .bool false, iM 0, iL 0], .box [lsv encSt106 2 y1.1, .nl, .nl, .nl, .bool false, iL y0.2.1, iL y0.2.2.1, iL y0.2.2.2.1, iL y0.2.2.2.2.1, iL y0.2.2.2.2.2.1, iL y0.2.2.2.2.2.2.1, iL y0.2.2.2.2.2.2.2.1, iL 0, iL y0.2.2.2.2.2.2.2.2.1, .bool y0.2.2.2.2.2.2.2.2.2, iM 0, iL 0]]) (by kernel_rfl) (n := 4) (by kernel_rfl) ?_
  refine kD 9 ?_
  obtain ⟨hm, h7⟩ := asrt h6
  refine RJ.rel (d := (some 32)) (ef := ⟨.lst ((y0.1 : Int).toNat - (s0 : Int).toNat) 1 (((x0.flatMap (encI .i32)).take ((y0.1 : Int).toNat * 1)).drop ((s0 : Int).toNat * 1)), [], []⟩) (ef' := ⟨.lst (cut x0 s0 y0.1).length 1 ((cut x0 s0 y0.1).flatMap (encI .i32)), [], []⟩) (c := inS s0 y0.1 x0.length) (tr2 := [([], []), ([], []), ([], []), ([0, 1], []), ([], []), ([], []), ([], []), ([], []), ([0, 1], []), ([], [])]) (H2 := [.box [lR x0, .mp 1, iL y0.1, iL x2], .map [(iM 45, iL x3), (iM 43, iL x4), (iM 37, iL x5), (iM 164, iL x6)], .box [.nl, .nl, .nl, .nl, .bool false, iL 0, iL 0, iL 0, iL 0, iL 0, iL 0, iL 0, iL 0, iL 0, .bool false, iM 0, iL 0], .box [lsv encSt106 2 y1.1, .nl, .nl, .nl, .bool false, iL y0.2.1, iL y0.2.2.1, iL y0.2.2.2.1, iL y0.2.2.2.2.1, iL y0.2.2.2.2.2.1, iL y0.2.2.2.2.2.2.1, iL y0.2.2.2.2.2.2.2.1, iL 0, iL y0.2.2.2.2.2.2.2.2.1, .bool y0.2.2.2.2.2.2.2.2.2, iM 0, iL 0]]) (by kernel_rfl) hm (fun hc => N.slice (encI_len .i32) hc) (by kernel_rfl) ?_
  refine kD 1 ?_
  refine kEN ?_
  refine kSR ?_
  refine kC 1 [0,2,3,5,33] ?_
  obtain ⟨y6, hy5, h8⟩ := bindS h7
  refine kCG (some 34) (args := [.ptr 0 0, .ptr 3 0, iL 3]) (v := .tup []) (H2 := [.box [lR x0, .mp 1, iL y6, iL x2], .map [(iM 45, iL x3), (iM 43, iL x4), (iM 37, iL x5), (iM 164, iL x6)], .box [.nl, .nl, .nl, .nl, .bool false, iL 0, iL 0, iL 0, iL 0, iL 0, iL 0, iL 0, iL 0, iL 0, .bool false, iM 0, iL 0], .box [lsv encSt106 2 y1.1, .nl, .nl, .nl, .bool false, iL y0.2.1, iL y0.2.2.1, iL y0.2.2.2.1, iL y0.2.2.2.2.1, iL y0.2.2.2.2.2.1, iL y0.2.2.2.2.2.2.1, iL y0.2.2.2.2.2.2.2.1, iL 0, iL y0.2.2.2.2.2.2.2.2.1, .bool y0.2.2.2.2.2.2.2.2.2, iM 0, iL 0]]) [0, 1, 3] (pat_reader__pad_s1_ok hy5) ?_
  refine kEN ?_
  refine kSR ?_
  refine kC 1 [0,2,3,5,35] ?_
  obtain ⟨y2, hy6, h9⟩ := bindS h8
  refine kCG (some 36) (args := [.ptr 0 0]) (v := lsv encSt106 2 y2.1) (H2 := [.box [lR x0, .mp 1, iL y2.2, iL x2], .map [(iM 45, iL x3), (iM 43, iL x4), (iM 37, iL x5), (iM 164, iL x6)], .box [.nl, .nl, .nl, .nl, .bool false, iL 0, iL 0, iL 0, iL 0, iL 0, iL 0, iL 0, iL 0, iL 0, .bool false, iM 0, iL 0], .box [lsv encSt106 2 y1.1, .nl, .nl, .nl, .bool false, iL y0.2.1, iL y0.2.2.1, iL y0.2.2.2.1, iL y0.2.2.2.2.1, iL y0.2.2.2.2.2.1, iL y0.2.2.2.2.2.2.1, iL y0.2.2.2.2.2.2.2.1, iL 0, iL y0.2.2.2.2.2.2.2.2.1, .bool y0.2.2.2.2.2.2.2.2.2, iM 0, iL 0]]) [0, 1] (pat_reader__affix_s0_ok hy6) ?_
  refine kC 2 [0,2,3,5] ?_
  refine kEN ?_
  obtain ⟨s2, hy7, h10⟩ := bindS h9
  refine K.cutN (by kernel_rfl) (fun (s2 : Int) => ([(0, .ptr 0 0), (2, .ptr 2 0), (3, .ptr 3 0), (5, lR (cut x0 s0 y0.1))], [.box [lR x0, .mp 1, iL s2, iL x2], .map [(iM 45, iL x3), (iM 43, iL x4), (iM 37, iL x5), (iM 164, iL x6)], .box [.nl, .nl, .nl, .nl, .bool false, iL 0, iL 0, iL 0, iL 0, iL 0, iL 0, iL 0, iL 0, iL 0, .bool false, iM 0, iL 0], .box [lsv encSt106 2 y1.1, lsv encSt106 2 y2.1, .nl, .nl, .bool false, iL y0.2.1, iL y0.2.2.1, iL y0.2.2.2.1, iL y0.2.2.2.2.1, iL y0.2.2.2.2.2.1, iL y0.2.2.2.2.2.2.1, iL y0.2.2.2.2.2.2.2.1, iL 0, iL y0.2.2.2.2.2.2.2.2.1, .bool y0.2.2.2.2.2.2.2.2.2, iM 0, iL 0]])) s2 ?_ ?_
  ·refine kSR ?_
   refine kC 4 [0,2,3,5,41] ?_
   refine kEN ?_
   refine kBJ 41 hy7 (fun h11 => ?_) (fun h12 => ?_)
   ·refine kT ?_
    refine kR ?_
    refine RJ.seg 1 [0, 2, 3, 5, 42] (L2 := [(0, .ptr 0 0), (2, .ptr 2 0), (3, .ptr 3 0), (5, lR (cut x0 s0 y0.1)), (42, .ptr 0 0)]) (H2 := [.box [lR x0, .mp 1, iL y2.2, iL x2], .map [(iM 45, iL x3), (iM 43, iL x4), (iM 37, iL x5), (iM 164, iL x6)], .box [.nl, .nl, .nl, .nl, .bool false, iL 0, iL 0, iL 0, iL 0, iL 0, iL 0, iL 0, iL 0, iL 0, .bool false, iM 0, iL 0], .box [lsv encSt106 2 y1.1, lsv encSt106 2 y2.1, .nl, .nl, .bool false, iL y0.2.1, iL y0.2.2.1, iL y0.2.2.2.1, iL y0.2.2.2.2.1, iL y0.2.2.2.2.2.1, iL y0.2.2.2.2.2.2.1, iL y0.2.2.2.2.2.2.2.1, iL 0, iL y0.2.2.2.2.2.2.2.2.1, .bool y0.2.2.2.2.2.2.2.2.2, iM 0, iL 0]]) (by kernel_rfl) ?_
    obtain ⟨y7, hy8, h13⟩ := bindS h11
    refine kCG (some 43) (args := [.ptr 0 0, .ptr 3 0, iL 4]) (v := .tup []) (H2 := [.box [lR x0, .mp 1, iL y7, iL x2], .map [(iM 45, iL x3), (iM 43, iL x4), (iM 37, iL x5), (iM 164, iL x6)], .box [.nl, .nl, .nl, .nl, .bool false, iL 0, iL 0, iL 0, iL 0, iL 0, iL 0, iL 0, iL 0, iL 0, .bool false, iM 0, iL 0], .box [lsv encSt106 2 y1.1, lsv encSt106 2 y2.1, .nl, .nl, .bool false, iL y0.2.1, iL y0.2.2.1, iL y0.2.2.2.1, iL y0.2.2.2.2.1, iL y0.2.2.2.2.2.1, iL y0.2.2.2.2.2.2.1, iL y0.2.2.2.2.2.2.2.1, iL 0, iL y0.2.2.2.2.2.2.2.2.1, .bool y0.2.2.2.2.2.2.2.2.2, iM 0, iL 0]]) [0, 1, 3] (pat_reader__pad_s2_ok hy8) ?_
    refine kE ?_
    obtain rfl := oi h13
    exact kN [0, 2, 3, 5]
   ·refine kF ?_
    refine kK ?_
    obtain rfl := oi h12
    exact kN [0, 2, 3, 5]
  ·obtain ⟨s1, hy9, h14⟩ := bindS h10
   refine K.cutN (by kernel_rfl) (fun (s1 : Int) => ([(0, .ptr 0 0), (2, .ptr 2 0), (3, .ptr 3 0)], [.box [lR x0, .mp 1, iL s1, iL x2], .map [(iM 45, iL x3), (iM 43, iL x4), (iM 37, iL x5), (iM 164, iL x6)], .box [.nl, .nl, .nl, .nl, .bool false, iL 0, iL 0, iL 0, iL 0, iL 0, iL 0, iL 0, iL 0, iL 0, .bool false, iM 0, iL 0], .box [lsv encSt106 2 y1.1, lsv encSt106 2 y2.1, .nl, .nl, .bool false, iL y0.2.1, iL y0.2.2.1, iL y0.2.2.2.1, iL y0.2.2.2.2.1, iL y0.2.2.2.2.2.1, iL y0.2.2.2.2.2.2.1, iL y0.2.2.2.2.2.2.2.1, iL 0, iL y0.2.2.2.2.2.2.2.2.1, .bool y0.2.2.2.2.2.2.2.2.2, iM 0, iL 0]])) s1 ?_ ?_
   ·refine kSR ?_
    refine kC 1 [0,2,3,5,44] ?_
    obtain ⟨y3, hy10, h15⟩ := bindS hy9
    refine kCG (some 45) (args := [.ptr 0 0, iM 59]) (v := .bool y3.1) (H2 := [.box [lR x0, .mp 1, iL y3.2, iL x2], .map [(iM 45, iL x3), (iM 43, iL x4), (iM 37, iL x5), (iM 164, iL x6)], .box [.nl, .nl, .nl, .nl, .bool false, iL 0, iL 0, iL 0, iL 0, iL 0, iL 0, iL 0, iL 0, iL 0, .bool false, iM 0, iL 0], .box [lsv encSt106 2 y1.1, lsv encSt106 2 y2.1, .nl, .nl, .bool false, iL y0.2.1, iL y0.2.2.1, iL y0.2.2.2.1, iL y0.2.2.2.2.1, iL y0.2.2.2.2.2.1, iL y0.2.2.2.2.2.2.1, iL y0.2.2.2.2.2.2.2.1, iL 0, iL y0.2.2.2.2.2.2.2.2.1, .bool y0.2.2.2.2.2.2.2.2.2, iM 0, iL 0]]) [0, 1] (pat_reader__eat_s0_ok hy10) ?_
    refine kEN ?_
    refine cT 45 h15 (fun h16 => ?_)
    refine kF ?_
    refine kK ?_
    obtain rfl := oi h16
    exact kN [0, 2, 3]
   ·obtain ⟨s3, hy11, h17⟩ := bindS h14
    refine K.cutN (by kernel_rfl) (fun (s3 : Unit) => ([(2, .ptr 2 0), (3, .ptr 3 0)], [.box [lR x0, .mp 1, iL s1, iL x2], .map [(iM 45, iL x3), (iM 43, iL x4), (iM 37, iL x5), (iM 164, iL x6)], .box [.nl, .nl, .nl, .nl, .bool false, iL 0, iL 0, iL 0, iL 0, iL 0, iL 0, iL 0, iL 0, iL 0, .bool false, iM 0, iL 0], .box [lsv encSt106 2 y1.1, lsv encSt106 2 y2.1, .nl, .nl, .bool false, iL y0.2.1, iL y0.2.2.1, iL y0.2.2.2.1, iL y0.2.2.2.2.1, iL y0.2.2.2.2.2.1, iL y0.2.2.2.2.2.2.1, iL y0.2.2.2.2.2.2.2.1, iL 0, iL y0.2.2.2.2.2.2.2.2.1, .bool y0.2.2.2.2.2.2.2.2.2, iM 0, iL 0]])) s3 ?_ ?_
    ·refine kS ?_
     refine J.keep [0, 2, 3] (L2 := [(0, .ptr 0 0), (2, .ptr 2 0), (3, .ptr 3 0)]) (by kernel_rfl) ?_
     refine K.draw (by kernel_rfl) (by kernel_rfl) (by kernel_rfl) (H2 := [.box [lR x0, .mp 1, iL s1, iL x2], .map [(iM 45, iL x3), (iM 43, iL x4), (iM 37, iL x5), (iM 164, iL x6)], .box [.nl, .nl, .nl, .nl, .bool false, iL 0, iL 0, iL 0, iL 0, iL 0, iL 0, iL 0, iL 0, iL 0, .bool false, iM 0, iL 0], .box [lsv encSt106 2 y1.1, lsv encSt106 2 y2.1, .nl, .nl, .bool false, iL y0.2.1, iL y0.2.2.1, iL y0.2.2.2.1, iL y0.2.2.2.2.1, iL y0.2.2.2.2.2.1, iL y0.2.2.2.2.2.2.1, iL y0.2.2.2.2.2.2.2.1, iL 0, iL y0.2.2.2.2.2.2.2.2.1, .bool y0.2.2.2.2.2.2.2.2.2, iM 0, iL 0]]) (by kernel_rfl) (n := 4) (by kernel_rfl) ?_
     refine kD 10 ?_
     refine kEN ?_
     refine cT 58 hy11 (fun h18 => ?_)
     refine kF ?_
     refine kK ?_
     obtain rfl := oi h18
     exact kN [2, 3]
    ·refine kSR ?_
     refine kC 2 [2] ?_
     refine kEN ?_
     refine kX ?_
     obtain rfl := oi h17
     refine PJ.res (v1 := .agg [lsv encSt106 2 y1.1, lsv encSt106 2 y2.1, .nl, .nl, .bool false, iL y0.2.1, iL y0.2.2.1, iL y0.2.2.2.1, iL y0.2.2.2.2.1, iL y0.2.2.2.2.2.1, iL y0.2.2.2.2.2.2.1, iL y0.2.2.2.2.2.2.2.1, iL 0, iL y0.2.2.2.2.2.2.2.2.1, .bool y0.2.2.2.2.2.2.2.2.2, iM 0, iL 0]) (Le.agg (.cons (Le.refl _) (.cons (Le.refl _) (.cons (Le.nl _) (.cons (Le.nl _) (.cons (Le.refl _) (.cons (Le.refl _) (.cons (Le.refl _) (.cons (Le.refl _) (.cons (Le.refl _) (.cons (Le.refl _) (.cons (Le.refl _) (.cons (Le.refl _) (.cons (Le.refl _) (.cons (Le.refl _) (.cons (Le.refl _) (.cons (Le.refl _) (.cons (Le.refl _) .nil)))))))))))))))))) ?_
     exact kV [0, 1] hFn hFH hFD (v1 := .agg [lsv encSt106 2 y1.1, lsv encSt106 2 y2.1, .nl, .nl, .bool false, iL y0.2.1, iL y0.2.2.1, iL y0.2.2.2.1, iL y0.2.2.2.2.1, iL y0.2.2.2.2.2.1, iL y0.2.2.2.2.2.2.1, iL y0.2.2.2.2.2.2.2.1, iL 0, iL y0.2.2.2.2.2.2.2.2.1, .bool y0.2.2.2.2.2.2.2.2.2, iM 0, iL 0])
def pat_read_1_s0 (x0 : List Int) (x1 : Int) (x2 : Int) (x3 : Int) (x4 : Int) (x5 : Int) (x6 : Int) (x7 : List St106) (x8 : List St106) (x9 : List St106) (x10 : List St106) (x11 : Bool) (x12 : Int) (x13 : Int) (x14 : Int) (x15 : Int) (x16 : Int) (x17 : Int) (x18 : Int) (x19 : Int) (x20 : Int) (x21 : Bool) (x22 : Int) (x23 : Int) (x24 : Int) (x25 : Bool) : Option (Unit) :=
 (some ())
theorem pat_read_1_s0_ok {x0 : List Int} {x1 : Int} {x2 : Int} {x3 : Int} {x4 : Int} {x5 : Int} {x6 : Int} {x7 : List St106} {x8 : List St106} {x9 : List St106} {x10 : List St106} {x11 : Bool} {x12 : Int} {x13 : Int} {x14 : Int} {x15 : Int} {x16 : Int} {x17 : Int} {x18 : Int} {x19 : Int} {x20 : Int} {x21 : Bool} {x22 : Int} {x23 : Int} {x24 : Int} {x25 : Bool} {r : Unit} (h : pat_read_1_s0 x0 x1 x2 x3 x4 x5 x6 x7 x8 x9 x10 x11 x12 x13 x14 x15 x16 x17 x18 x19 x20 x21 x22 x23 x24 x25 = some r) : SD Tryz.prog 143 false [.ptr 0 0, .ptr 3 0, .ptr 4 0, .ptr 5 0] [.box [.ptr 1 0], .box [lR x0, .mp 2, iL x1, iL x2], .map [(iM 45, iL x3), (iM 43, iL x4), (iM 37, iL x5), (iM 164, iL x6)], .box [lsv encSt106 2 x7, lsv encSt106 2 x8, lsv encSt106 2 x9, lsv encSt106 2 x10, .bool x11, iL x12, iL x13, iL x14, iL x15, iL x16, iL x17, iL x18, iL x19, iL x20, .bool x21, iM x22, iL x23], .box [iL x24], .box [.bool x25]] [.box [.ptr 1 0], .box [lR x0, .mp 2, iL x1, iL x2], .map [(iM 45, iL x3), (iM 43, iL x4), (iM 37, iL x5), (iM 164, iL x6)], .box [lsv encSt106 2 x7, lsv encSt106 2 x8, lsv encSt106 2 x9, lsv encSt106 2 x10, .bool x11, iL x12, iL x13, iL x14, iL x15, iL x16, iL x17, iL x18, iL x19, iL x20, .bool x21, iM x22, iL x23], .box [iL x24], .box [.bool x25]] := by
 refine kFnC (fn := Tryz.f143) false 4 5 (fun F hFn hFH hFD => ?_)
 unfold pat_read_1_s0 at h
 refine kF ?_
 refine kK ?_
 obtain rfl := oi h
 exact K.retV (H0 := [.box [.ptr 1 0], .box [lR x0, .mp 2, iL x1, iL x2], .map [(iM 45, iL x3), (iM 43, iL x4), (iM 37, iL x5), (iM 164, iL x6)], .box [lsv encSt106 2 x7, lsv encSt106 2 x8, lsv encSt106 2 x9, lsv encSt106 2 x10, .bool x11, iL x12, iL x13, iL x14, iL x15, iL x16, iL x17, iL x18, iL x19, iL x20, .bool x21, iM x22, iL x23], .box [iL x24], .box [.bool x25]]) [0, 1, 2, 3, 4, 5] (.inl rfl) hFn hFH hFD (by kernel_rfl) (v1 := .tup []) (by kernel_rfl) (by kernel_rfl) (by kernel_rfl) (by decide) (by kernel_rfl) (by kernel_rfl) (by kernel_rfl) (by kernel_rfl) (by kernel_rfl)
def pat_read (x0 : List Int) : Option (St32 × Int × Bool) :=
 (Option.bind pat_signs_s0 fun y1 => (Option.bind (pat_reader__pattern_s0 x0 0 0 1 2 3 4) fun y0 => (Option.bind (pat_read_1_s0 x0 y0.2 0 1 2 3 4 y0.1.Pre_ y0.1.Suf_ y0.1.NPre_ y0.1.NSuf_ y0.1.Neg_ y0.1.Hash_ y0.1.MinInt_ y0.1.MinFrac_ y0.1.MaxFrac_ y0.1.G1_ y0.1.G2_ y0.1.MinSig_ y0.1.MaxSig_ y0.1.Exp_ y0.1.ExpPlus_ y0.1.Pad_ y0.1.PadAt_ 0 true) fun y2 => (some (y0.1, 0, true)))))
theorem pat_read_ok {x0 : List Int} {r : St32 × Int × Bool} (h : pat_read x0 = some r) : SC Tryz.prog 115 [lR x0] [] (.tup [.agg (encSt32 r.1), iL r.2.1, .bool r.2.2]) [] := by
 refine kFnD (fn := Tryz.f115) (fun F hFn hFH hFD hFds => ?_)
 unfold pat_read at h
 refine kSR ?_
 refine kC 3 [0,2,3,4] ?_
 refine kEN ?_
 refine kSR ?_
 refine kC 1 [2,3,4,6] ?_
 obtain ⟨y1, hy0, h0⟩ := bindS h
 refine kCG (some 7) (args := []) (v := .mp 3) (H2 := [.box [.nl, .nl, .nl, .nl, .bool false, iL 0, iL 0, iL 0, iL 0, iL 0, iL 0, iL 0, iL 0, iL 0, .bool false, iM 0, iL 0], .box [iL 0], .box [.bool false], .map [(iM 45, iL 1), (iM 43, iL 2), (iM 37, iL 3), (iM 164, iL 4)]]) [] (pat_signs_s0_ok hy0) ?_
 refine kC 4 [2,3,4,5] ?_
 refine kEN ?_
 refine kSR ?_
 refine kC 1 [2,3,4,5,10] ?_
 refine RJ.defer (f := 143) (args := [.ptr 5 0, .ptr 0 0, .ptr 1 0, .ptr 2 0]) (by kernel_rfl) hFds (fun w1 K1 D1 d1 hok hgr hFD1 => ?_)
 refine kEN ?_
 refine kSR ?_
 refine kC 1 [2,3,4,11] ?_
 obtain ⟨y0, hy1, h1⟩ := bindS h0
 refine kCG (some 12) (args := [.ptr 4 0]) (v := .agg (encSt32 y0.1)) (H2 := [.box [.nl, .nl, .nl, .nl, .bool false, iL 0, iL 0, iL 0, iL 0, iL 0, iL 0, iL 0, iL 0, iL 0, .bool false, iM 0, iL 0], .box [iL 0], .box [.bool false], .map [(iM 45, iL 1), (iM 43, iL 2), (iM 37, iL 3), (iM 164, iL 4)], .box [lR x0, .mp 3, iL y0.2, iL 0], .box [.ptr 4 0]]) [4, 3] (pat_reader__pattern_s0_ok hy1) ?_
 refine kC 3 [2,3,4] ?_
 refine kEN ?_
 refine kX ?_
 obtain ⟨y2, hy2, h2⟩ := bindS h1
 obtain rfl := oi h2
 exact PJ.retD (args := [.ptr 5 0, .ptr 0 0, .ptr 1 0, .ptr 2 0]) (args0 := [.ptr 0 0, .ptr 3 0, .ptr 4 0, .ptr 5 0]) (H0 := [.box [.ptr 1 0], .box [lR x0, .mp 2, iL y0.2, iL 0], .map [(iM 45, iL 1), (iM 43, iL 2), (iM 37, iL 3), (iM 164, iL 4)], .box (encSt32 y0.1), .box [iL 0], .box [.bool true]]) (H0' := [.box [.ptr 1 0], .box [lR x0, .mp 2, iL y0.2, iL 0], .map [(iM 45, iL 1), (iM 43, iL 2), (iM 37, iL 3), (iM 164, iL 4)], .box (encSt32 y0.1), .box [iL 0], .box [.bool true]]) (H2 := [.box (encSt32 y0.1), .box [iL 0], .box [.bool true], .map [(iM 45, iL 1), (iM 43, iL 2), (iM 37, iL 3), (iM 164, iL 4)], .box [lR x0, .mp 3, iL y0.2, iL 0], .box [.ptr 4 0]]) (H1 := []) (H' := []) (v := .tup [.agg (encSt32 y0.1), iL 0, .bool true]) (v1 := .tup [.agg (encSt32 y0.1), iL 0, .bool true]) [5, 4, 3, 0, 1, 2] [] hok hgr rfl hFn (pat_read_1_s0_ok hy2) (by kernel_rfl) (by kernel_rfl) (by kernel_rfl) (by decide) (by kernel_rfl) (by kernel_rfl) (by kernel_rfl) (by kernel_rfl) (by kernel_rfl) (by kernel_rfl) (by kernel_rfl) hFH hFD (by kernel_rfl) (by kernel_rfl) (by decide) (by kernel_rfl) (by kernel_rfl) (by kernel_rfl) (by kernel_rfl) (by kernel_rfl) (Le.refl _)
def pat_Parse (x0 : List UInt8) : Option (St32 × Int × Int) :=
 (Option.bind (utf_Decode (bytesI x0)) fun y1 => (bif (decide (¬ y1.2.2 = 0)) then none else (bif (decide ((y1.1.length : Int) > 120)) then none else (Option.bind (pat_read y1.1) fun y0 => (bif (!y0.2.2) then none else (bif (decide (((maxI ((maxI ((maxI (IntKind.wrap .i64 (y0.1.Hash_ + y0.1.MinInt_)) y0.1.MaxFrac_)) y0.1.MaxSig_)) y0.1.Exp_)) > 40)) then none else (some (y0.1, 0, 0))))))))
theorem pat_Parse_ok {x0 : List UInt8} {r : St32 × Int × Int} (h : pat_Parse x0 = some r) : SC Tryz.prog 76 [.str x0] [] (.tup [.agg (encSt32 r.1), iL r.2.1, iL r.2.2]) [] := by
 refine kFn (fn := Tryz.f76) (fun F hFn hFH hFD => ?_)
 unfold pat_Parse at h
 refine kSR ?_
 refine kC 3 [0,2,3,4] ?_
 refine kEN ?_
 refine kSR ?_
 refine kC 1 [2,3,4,11] ?_
 refine RJ.rel (d := (some 12)) (ef := ⟨.lst x0.length 1 (x0.map byteSV), [], []⟩) (ef' := ⟨lB (bytesI x0), [], []⟩) (c := true) (tr2 := []) (H2 := [.box [.nl, .nl, .nl, .nl, .bool false, iL 0, iL 0, iL 0, iL 0, iL 0, iL 0, iL 0, iL 0, iL 0, .bool false, iM 0, iL 0]]) (by kernel_rfl) rfl (fun hc => N.toBytes) (by kernel_rfl) ?_
 obtain ⟨y1, hy0, h0⟩ := bindS h
 refine kA 13 (utf_Decode_ok hy0) ?_
 refine kC 7 [2,3,4,5,6,7] ?_
 refine kEN ?_
 refine kS ?_
 refine kSR ?_
 refine kC 2 [2,3,4,5,6,7,18] ?_
 refine kEN ?_
 refine cT 18 h0 (fun h1 => ?_)
 refine kF ?_
 refine kK ?_
 refine PJ.next ?_
 refine kS ?_
 refine kSR ?_
 refine kC 3 [2,3,4,5,6,24] ?_
 refine kEN ?_
 refine cT 24 h1 (fun h2 => ?_)
 refine kF ?_
 refine kK ?_
 refine PJ.next ?_
 refine kSR ?_
 refine kC 1 [2,3,4,6,27] ?_
 obtain ⟨y0, hy1, h3⟩ := bindS h2
 refine kA 28 (pat_read_ok hy1) ?_
 refine kC 8 [2,3,4,6,8,9] ?_
 refine kEN ?_
 refine kS ?_
 refine kSR ?_
 refine kC 2 [2,3,4,6,8,33] ?_
 refine kEN ?_
 refine cT 33 h3 (fun h4 => ?_)
 refine kF ?_
 refine kK ?_
 refine PJ.next ?_
 refine kS ?_
 refine kSR ?_
 refine RJ.seg 13 [2, 3, 4, 8, 48] (L2 := [(2, .ptr 0 0), (3, iL 0), (4, iL 0), (8, .ptr 1 0), (48, .bool ((decide (((maxI ((maxI ((maxI (IntKind.wrap .i64 (y0.1.Hash_ + y0.1.MinInt_)) y0.1.MaxFrac_)) y0.1.MaxSig_)) y0.1.Exp_)) > 40))))]) (H2 := [.box [.nl, .nl, .nl, .nl, .bool false, iL 0, iL 0, iL 0, iL 0, iL 0, iL 0, iL 0, iL 0, iL 0, .bool false, iM 0, iL 0], .box (encSt32 y0.1)]) (by kernel_rfl) ?_
 refine kEN ?_
 refine cT 48 h4 (fun h5 => ?_)
 refine kF ?_
 refine kK ?_
 refine PJ.next ?_
 refine kSR ?_
 refine kC 4 [2,3,4] ?_
 refine kEN ?_
 refine kX ?_
 obtain rfl := oi h5
 exact kZ hFn hFH hFD
def pat_some (x0 : Int) : Option (Int) :=
 (some (maxI 0 (minI x0 121)))
theorem pat_some_ok {x0 : Int} {r : Int} (h : pat_some x0 = some r) : SC Tryz.prog 188 [iL x0] [] (iL r) [] := by
 refine kFn (fn := Tryz.f188) (fun F hFn hFH hFD => ?_)
 unfold pat_some at h
 refine kSR ?_
 refine kC 1 [0,2] ?_
 refine kEN ?_
 refine kSR ?_
 refine kC 4 [2] ?_
 refine kEN ?_
 refine kX ?_
 obtain rfl := oi h
 exact kZ hFn hFH hFD
def pat_grouped (x0 : St32) (x1 : Int) : Option (Bool) :=
 (Option.bind (Option.bind (bif (decide (x0.G1_ < 1)) then (some true) else (some (decide (x1 < x0.G1_)))) fun (s0 : Bool) => (bif s0 then (some (.inr false)) else (some (.inl ())))) (joinX fun (s2 : Unit) => (Option.bind (bif (decide (x1 = x0.G1_)) then (some ()) else none) fun (s1 : Unit) => (some true))))
theorem pat_grouped_ok {x0 : St32} {x1 : Int} {r : Bool} (h : pat_grouped x0 x1 = some r) : SC Tryz.prog 204 [.agg (encSt32 x0), iL x1] [] (.bool r) [] := by
 refine kFn (fn := Tryz.f204) (fun F hFn hFH hFD => ?_)
 unfold pat_grouped at h
 refine kSR ?_
 refine kC 2 [1,2,4] ?_
 refine kEN ?_
 obtain ⟨y0, hy0, h0⟩ := bindS h
 refine K.cutX (by kernel_rfl) (fun (s2 : Unit) => ([(1, iL x1), (2, .ptr 0 0), (4, .bool false)], [.box (encSt32 x0)])) y0 ?_ (fun s2 hs => ?_)
 ·obtain ⟨s0, hy1, h1⟩ := bindS hy0
  refine K.cutN (by kernel_rfl) (fun (s0 : Bool) => ([(1, iL x1), (2, .ptr 0 0), (4, .bool false), (13, .bool s0)], [.box (encSt32 x0)])) s0 ?_ ?_
  ·refine kR ?_
   refine kC 4 [1,2,4,8] ?_
   refine kB 8 hy1 (fun h2 => ?_) (fun h3 => ?_)
   ·refine kC 5 [1,2,4,13] ?_
    refine kE ?_
    obtain rfl := oi h2
    exact kN [1, 2, 4, 13]
   ·refine kC 5 [1,2,4,13] ?_
    refine kE ?_
    obtain rfl := oi h3
    exact kN [1, 2, 4, 13]
  ·refine kBJ 13 h1 (fun h4 => ?_) (fun h5 => ?_)
   ·refine kT ?_
    refine kSR ?_
    refine kC 1 [1,2,4] ?_
    refine kEN ?_
    refine kX ?_
    obtain rfl := oi h4
    have h6 := joinX_inr h0
    refine PJ.cutXr (fun e => nomatch e) ?_
    obtain rfl := oi h6
    exact kZ hFn hFH hFD
   ·refine kF ?_
    refine kK ?_
    obtain rfl := oi h5
    exact kXl [1, 2, 4]
 ·subst hs
  have h7 := joinX_inl h0
  obtain ⟨s1, hy2, h8⟩ := bindS h7
  refine K.cutN (by kernel_rfl) (fun (s1 : Unit) => ([(4, .bool true)], [])) s1 ?_ ?_
  ·refine kR ?_
   refine kC 5 [1,2,4,18] ?_
   refine cFR 18 hy2 (fun h9 => ?_)
   refine kC 15 [4] ?_
   refine kE ?_
   obtain rfl := oi h9
   refine kW (L2 := [(4, .bool true)]) (H2 := []) hFH hFD [] ?_
   exact kN [4]
  ·refine kX ?_
   obtain rfl := oi h8
   exact kZ hFn hFH hFD
def pat_places (x0 : List Int) (x1 : St32) : Option (List Int) :=
 (Option.bind (pat_some x1.Hash_) fun y0 => (Option.bind (pat_some x1.MinInt_) fun y1 => (Option.bind (loopN (fun (s0 : Int × (List Int)) => (bif (decide (s0.1 < (IntKind.wrap .i64 (y0 + y1)))) then (Option.bind (Option.bind (Option.bind (bif (decide (s0.1 > 0)) then (Option.bind (pat_grouped x1 ((IntKind.wrap .i64 ((IntKind.wrap .i64 (y0 + y1)) - s0.1)))) fun y2 => (some y2)) else (some false)) fun (s2 : Bool) => (bif s2 then (bif room (s0.2.length + ([44] : List Int).length) then (some (s0.2 ++ ([44] : List Int))) else none) else (some s0.2))) fun (s1 : (List Int)) => (bif (decide (s0.1 < y0)) then (bif room (s1.length + ([35] : List Int).length) then (some (s1 ++ ([35] : List Int))) else none) else (bif room (s1.length + ([48] : List Int).length) then (some (s1 ++ ([48] : List Int))) else none))) fun (s3 : (List Int)) => (some (.inl ((IntKind.wrap .i64 (s0.1 + 1)), s3)))) else (some (.inr s0.2)))) big (0, x0)) fun (s4 : (List Int)) => (some s4))))
theorem pat_places_ok_0o {x0 : List Int} {x1 : St32} {r : List Int} (h : pat_places x0 x1 = some r) : SC Tryz.prog 189 [.vc 0, .agg (encSt32 x1)] [vecL (encI .i32) 1 21 x0] (.vc 1) [.gone, vecL (encI .i32) 1 21 r] := by
 refine kFn (fn := Tryz.f189) (fun F hFn hFH hFD => ?_)
 unfold pat_places at h
 refine J.wk (Wk.move 0 (n := x0.length) (k := 1) (e := 21) (cs := x0.flatMap (encI .i32)) (by kernel_rfl)) ?_
 refine kSR ?_
 refine kC 2 [0,3,4] ?_
 refine kEN ?_
 refine kSR ?_
 refine kC 2 [0,3,4,9] ?_
 obtain ⟨y0, hy0, h0⟩ := bindS h
 refine kA 10 (pat_some_ok hy0) ?_
 refine kC 1 [0,3,4,5] ?_
 refine kEN ?_
 refine kSR ?_
 refine kC 3 [0,3,4,5,11,13] ?_
 obtain ⟨y1, hy1, h1⟩ := bindS h0
 refine kA 14 (pat_some_ok hy1) ?_
 refine kC 2 [0,3,4,5,6] ?_
 refine kEN ?_
 obtain ⟨s4, hy2, h2⟩ := bindS h1
 refine K.cutN (by kernel_rfl) (fun (s4 : (List Int)) => ([(0, .vc 1), (4, .nl)], [.gone, vecL (encI .i32) 1 21 s4])) s4 ?_ ?_
 ·refine kSR ?_
  refine kC 2 [0,3,4,5,6,16,17] ?_
  refine kEN ?_
  refine kb 0 ?_
  refine kl (fun (s0 : Int × (List Int)) => ([(0, .vc 1), (3, .ptr 2 0), (4, .nl), (5, iL y0), (6, iL (IntKind.wrap .i64 (y0 + y1))), (16, iL (IntKind.wrap .i64 (y0 + y1))), (17, iL s0.1)], [.gone, vecL (encI .i32) 1 21 s0.2, .box (encSt32 x1)])) hy2 [0, 3, 4, 5, 6, 16, 17] (fun s0 x587 hs0 => ?_)
  refine kSR ?_
  refine kC 1 [0,3,4,5,6,16,17,18] ?_
  refine kEN ?_
  refine kS ?_
  refine kBJ 18 hs0 (fun h3 => ?_) (fun h4 => ?_)
  ·refine kT ?_
   refine kK ?_
   refine PJ.next ?_
   obtain ⟨s3, hy3, h5⟩ := bindS h3
   refine K.cutN (by kernel_rfl) (fun (s3 : (List Int)) => ([(0, .vc 1), (3, .ptr 2 0), (4, .nl), (5, iL y0), (6, iL (IntKind.wrap .i64 (y0 + y1))), (16, iL (IntKind.wrap .i64 (y0 + y1))), (17, iL s0.1)], [.gone, vecL (encI .i32) 1 21 s3, .box (encSt32 x1)])) s3 ?_ ?_
   ·refine kb 1 ?_
    refine kSR ?_
    refine kC 2 [0,3,4,5,6,7,16,17] ?_
    refine kEN ?_
    obtain ⟨s1, hy4, h6⟩ := bindS hy3
    refine K.cutN (by kernel_rfl) (fun (s1 : (List Int)) => ([(0, .vc 1), (3, .ptr 2 0), (4, .nl), (5, iL y0), (6, iL (IntKind.wrap .i64 (y0 + y1))), (7, iL s0.1), (16, iL (IntKind.wrap .i64 (y0 + y1))), (17, iL s0.1)], [.gone, vecL (encI .i32) 1 21 s1, .box (encSt32 x1)])) s1 ?_ ?_
    ·obtain ⟨s2, hy5, h7⟩ := bindS hy4
     refine K.cutN (by kernel_rfl) (fun (s2 : Bool) => ([(0, .vc 1), (3, .ptr 2 0), (4, .nl), (5, iL y0), (6, iL (IntKind.wrap .i64 (y0 + y1))), (7, iL s0.1), (16, iL (IntKind.wrap .i64 (y0 + y1))), (17, iL s0.1), (28, .bool s2)], [.gone, vecL (encI .i32) 1 21 s0.2, .box (encSt32 x1)])) s2 ?_ ?_
     ·refine kR ?_
      refine kC 3 [0,3,4,5,6,7,16,17,22] ?_
      refine kB 22 hy5 (fun h8 => ?_) (fun h9 => ?_)
      ·refine kC 4 [0,3,4,5,6,7,16,17,22,23,26] ?_
       obtain ⟨y2, hy6, h10⟩ := bindS h8
       refine kA 27 (pat_grouped_ok hy6) ?_
       refine kC 1 [0,3,4,5,6,7,16,17,28] ?_
       refine kE ?_
       obtain rfl := oi h10
       exact kN [0, 3, 4, 5, 6, 7, 16, 17, 28]
      ·refine kC 6 [0,3,4,5,6,7,16,17,28] ?_
       refine kE ?_
       obtain rfl := oi h9
       exact kN [0, 3, 4, 5, 6, 7, 16, 17, 28]
     ·refine kBJ 28 h7 (fun h11 => ?_) (fun h12 => ?_)
      ·refine kT ?_
       refine kR ?_
       refine kC 2 [0,3,4,5,6,7,16,17,29,30] ?_
       obtain ⟨hm, h13⟩ := asrt h11
       refine RJ.rel (d := (some 31)) (ef := ⟨.vc 4, [1, 3], [(1, .gone), (4, .vec (s0.2.length + ([44] : List Int).length) 1 21 (s0.2.flatMap (encI .i32) ++ ([44] : List Int).flatMap (encI .i32)))]⟩) (ef' := ⟨.vc 4, [1, 3], [(1, .gone), (4, vecL (encI .i32) 1 21 (s0.2 ++ ([44] : List Int)))]⟩) (c := room (s0.2.length + ([44] : List Int).length)) (tr2 := []) (H2 := [.gone, .gone, .box (encSt32 x1), vecL (encI .i32) 1 21 ([44] : List Int), vecL (encI .i32) 1 21 (s0.2 ++ ([44] : List Int))]) (by kernel_rfl) hm (fun hc => N.app) (by kernel_rfl) ?_
       refine kC 1 [0,3,4,5,6,7,16,17] ?_
       refine kE ?_
       obtain rfl := oi h13
       refine kW (L2 := [(0, .vc 1), (3, .ptr 2 0), (4, .nl), (5, iL y0), (6, iL (IntKind.wrap .i64 (y0 + y1))), (7, iL s0.1), (16, iL (IntKind.wrap .i64 (y0 + y1))), (17, iL s0.1)]) (H2 := [.gone, vecL (encI .i32) 1 21 (s0.2 ++ ([44] : List Int)), .box (encSt32 x1)]) hFH hFD [0, 4, 2] ?_
       exact kN [0, 3, 4, 5, 6, 7, 16, 17]
      ·refine kF ?_
       refine kK ?_
       obtain rfl := oi h12
       exact kN [0, 3, 4, 5, 6, 7, 16, 17]
    ·refine kSR ?_
     refine kC 3 [0,3,4,5,6,16,17,34] ?_
     refine kEN ?_
     refine kBJ 34 h6 (fun h14 => ?_) (fun h15 => ?_)
     ·refine kT ?_
      refine kR ?_
      refine kC 2 [0,3,4,5,6,16,17,35,36] ?_
      obtain ⟨hm, h16⟩ := asrt h14
      refine RJ.rel (d := (some 37)) (ef := ⟨.vc 4, [1, 3], [(1, .gone), (4, .vec (s1.length + ([35] : List Int).length) 1 21 (s1.flatMap (encI .i32) ++ ([35] : List Int).flatMap (encI .i32)))]⟩) (ef' := ⟨.vc 4, [1, 3], [(1, .gone), (4, vecL (encI .i32) 1 21 (s1 ++ ([35] : List Int)))]⟩) (c := room (s1.length + ([35] : List Int).length)) (tr2 := []) (H2 := [.gone, .gone, .box (encSt32 x1), vecL (encI .i32) 1 21 ([35] : List Int), vecL (encI .i32) 1 21 (s1 ++ ([35] : List Int))]) (by kernel_rfl) hm (fun hc => N.app) (by kernel_rfl) ?_
      refine kC 1 [0,3,4,5,6,16,17] ?_
      refine kE ?_
      refine PJ.blockNormal ?_
      obtain rfl := oi h16
      refine kW (L2 := [(0, .vc 1), (3, .ptr 2 0), (4, .nl), (5, iL y0), (6, iL (IntKind.wrap .i64 (y0 + y1))), (16, iL (IntKind.wrap .i64 (y0 + y1))), (17, iL s0.1)]) (H2 := [.gone, vecL (encI .i32) 1 21 (s1 ++ ([35] : List Int)), .box (encSt32 x1)]) hFH hFD [0, 4, 2] ?_
      exact kN [0, 3, 4, 5, 6, 16, 17]
     ·refine kF ?_
      refine kR ?_
      refine kC 2 [0,3,4,5,6,16,17,38,39] ?_
      obtain ⟨hm, h17⟩ := asrt h15
      refine RJ.rel (d := (some 40)) (ef := ⟨.vc 4, [1, 3], [(1, .gone), (4, .vec (s1.length + ([48] : List Int).length) 1 21 (s1.flatMap (encI .i32) ++ ([48] : List Int).flatMap (encI .i32)))]⟩) (ef' := ⟨.vc 4, [1, 3], [(1, .gone), (4, vecL (encI .i32) 1 21 (s1 ++ ([48] : List Int)))]⟩) (c := room (s1.length + ([48] : List Int).length)) (tr2 := []) (H2 := [.gone, .gone, .box (encSt32 x1), vecL (encI .i32) 1 21 ([48] : List Int), vecL (encI .i32) 1 21 (s1 ++ ([48] : List Int))]) (by kernel_rfl) hm (fun hc => N.app) (by kernel_rfl) ?_
      refine kC 1 [0,3,4,5,6,16,17] ?_
      refine kE ?_
      refine PJ.blockNormal ?_
      obtain rfl := oi h17
      refine kW (L2 := [(0, .vc 1), (3, .ptr 2 0), (4, .nl), (5, iL y0), (6, iL (IntKind.wrap .i64 (y0 + y1))), (16, iL (IntKind.wrap .i64 (y0 + y1))), (17, iL s0.1)]) (H2 := [.gone, vecL (encI .i32) 1 21 (s1 ++ ([48] : List Int)), .box (encSt32 x1)]) hFH hFD [0, 4, 2] ?_
      exact kN [0, 3, 4, 5, 6, 16, 17]
   ·refine kR ?_
    refine kC 2 [0,3,4,5,6,16,17] ?_
    refine kE ?_
    obtain rfl := oi h5
    exact kLN [0, 3, 4, 5, 6, 16, 17]
  ·refine kF ?_
   refine K.exit 0 (by kernel_rfl) ?_
   refine PJ.passExit ?_
   obtain rfl := oi h4
   refine PJ.loopOut (fun e => nomatch e) (fun he0 => ?_)
   have h18 := congrArg some he0
   refine PJ.blockOut ?_
   obtain rfl := oi h18
   refine kW (L2 := [(0, .vc 1), (4, .nl)]) (H2 := [.gone, vecL (encI .i32) 1 21 s0.2]) hFH hFD [0, 1] ?_
   exact kN [0, 4]
 ·refine kSR ?_
  refine kC 2 [4] ?_
  refine kEN ?_
  refine kX ?_
  obtain rfl := oi h2
  exact kV [0, 1] hFn hFH hFD (v1 := .vc 1)
def pat_repeat (x0 : List Int) (x1 : Int) (x2 : Int) : Option (List Int) :=
 (Option.bind (Option.bind (pat_some x2) fun y0 => (loopN (fun (s0 : Int × (List Int)) => (bif (decide (s0.1 < y0)) then (bif room (s0.2.length + ([x1] : List Int).length) then (some (.inl ((IntKind.wrap .i64 (s0.1 + 1)), (s0.2 ++ ([x1] : List Int))))) else none) else (some (.inr s0.2)))) big (0, x0))) fun (s1 : (List Int)) => (some s1))
theorem pat_repeat_ok_0o {x0 : List Int} {x1 : Int} {x2 : Int} {r : List Int} (h : pat_repeat x0 x1 x2 = some r) : SC Tryz.prog 187 [.vc 0, iM x1, iL x2] [vecL (encI .i32) 1 21 x0] (.vc 1) [.gone, vecL (encI .i32) 1 21 r] := by
 refine kFn (fn := Tryz.f187) (fun F hFn hFH hFD => ?_)
 unfold pat_repeat at h
 refine J.wk (Wk.move 0 (n := x0.length) (k := 1) (e := 21) (cs := x0.flatMap (encI .i32)) (by kernel_rfl)) ?_
 refine kSR ?_
 refine kC 1 [0,1,2,6] ?_
 refine kEN ?_
 obtain ⟨s1, hy0, h0⟩ := bindS h
 refine K.cutN (by kernel_rfl) (fun (s1 : (List Int)) => ([(0, .vc 1), (6, .nl)], [.gone, vecL (encI .i32) 1 21 s1])) s1 ?_ ?_
 ·refine kSR ?_
  refine kC 1 [0,1,6,7] ?_
  obtain ⟨y0, hy1, h1⟩ := bindS hy0
  refine kA 8 (pat_some_ok hy1) ?_
  refine kC 1 [0,1,6,8,9] ?_
  refine kEN ?_
  refine kb 0 ?_
  refine kl (fun (s0 : Int × (List Int)) => ([(0, .vc 1), (1, iM x1), (6, .nl), (8, iL y0), (9, iL s0.1)], [.gone, vecL (encI .i32) 1 21 s0.2])) h1 [0, 1, 6, 8, 9] (fun s0 x47 hs0 => ?_)
  refine kSR ?_
  refine kC 1 [0,1,6,8,9,10] ?_
  refine kEN ?_
  refine kS ?_
  refine kBJ 10 hs0 (fun h2 => ?_) (fun h3 => ?_)
  ·refine kT ?_
   refine kK ?_
   refine PJ.next ?_
   refine kS ?_
   refine kb 1 ?_
   refine kR ?_
   refine kC 3 [0,1,6,8,9,11,13] ?_
   obtain ⟨hm, h4⟩ := asrt h2
   refine RJ.rel (d := (some 14)) (ef := ⟨.vc 3, [1, 2], [(1, .gone), (3, .vec (s0.2.length + ([x1] : List Int).length) 1 21 (s0.2.flatMap (encI .i32) ++ ([x1] : List Int).flatMap (encI .i32)))]⟩) (ef' := ⟨.vc 3, [1, 2], [(1, .gone), (3, vecL (encI .i32) 1 21 (s0.2 ++ ([x1] : List Int)))]⟩) (c := room (s0.2.length + ([x1] : List Int).length)) (tr2 := []) (H2 := [.gone, .gone, vecL (encI .i32) 1 21 ([x1] : List Int), vecL (encI .i32) 1 21 (s0.2 ++ ([x1] : List Int))]) (by kernel_rfl) hm (fun hc => N.app) (by kernel_rfl) ?_
   refine kC 1 [0,1,6,8,9] ?_
   refine kE ?_
   refine PJ.blockNormal ?_
   refine PJ.next ?_
   refine kR ?_
   refine kC 2 [0,1,6,8,9] ?_
   refine kE ?_
   obtain rfl := oi h4
   refine kW (L2 := [(0, .vc 1), (1, iM x1), (6, .nl), (8, iL y0), (9, iL (IntKind.wrap .i64 (s0.1 + 1)))]) (H2 := [.gone, vecL (encI .i32) 1 21 (s0.2 ++ ([x1] : List Int))]) hFH hFD [0, 3] ?_
   exact kLN [0, 1, 6, 8, 9]
  ·refine kF ?_
   refine K.exit 0 (by kernel_rfl) ?_
   refine PJ.passExit ?_
   obtain rfl := oi h3
   refine PJ.loopOut (fun e => nomatch e) (fun he0 => ?_)
   have h5 := congrArg some he0
   refine PJ.blockOut ?_
   obtain rfl := oi h5
   exact kN [0, 6]
 ·refine kSR ?_
  refine kC 2 [6] ?_
  refine kEN ?_
  refine kX ?_
  obtain rfl := oi h0
  exact kV [0, 1] hFn hFH hFD (v1 := .vc 1)
def pat_number (x0 : St32) : Option (List Int) :=
 (Option.bind (Option.bind (bif (decide (x0.MinSig_ > 0)) then none else (some ())) fun (s2 : Unit) => (bif (decide (x0.MaxSig_ > 0)) then none else (Option.bind (pat_places ([] : List Int) x0) fun y0 => (bif (decide (¬ x0.MaxFrac_ = 0)) then (bif room (y0.length + ([46] : List Int).length) then (Option.bind (pat_repeat (y0 ++ ([46] : List Int)) 48 x0.MinFrac_) fun y2 => (Option.bind (pat_some x0.MinFrac_) fun y1 => (Option.bind (pat_repeat y2 35 (IntKind.wrap .i64 (x0.MaxFrac_ - y1))) fun y3 => (some y3)))) else none) else (some y0))))) fun (s0 : (List Int)) => (Option.bind (bif (decide (¬ x0.Exp_ = 0)) then (bif room (s0.length + ([69] : List Int).length) then (Option.bind (bif x0.ExpPlus_ then none else (some ())) fun (s3 : Unit) => (Option.bind (pat_repeat (s0 ++ ([69] : List Int)) 48 x0.Exp_) fun y4 => (some y4))) else none) else (some s0)) fun (s1 : (List Int)) => (some s1)))
theorem pat_number_ok {x0 : St32} {r : List Int} (h : pat_number x0 = some r) : SC Tryz.prog 168 [.agg (encSt32 x0)] [] (lR r) [] := by
 refine kFn (fn := Tryz.f168) (fun F hFn hFH hFD => ?_)
 unfold pat_number at h
 refine kSR ?_
 refine kC 2 [1,2] ?_
 refine kEN ?_
 refine kSR ?_
 refine kC 1 [1,2,3] ?_
 refine kEN ?_
 obtain ⟨s0, hy0, h0⟩ := bindS h
 refine K.cutN (by kernel_rfl) (fun (s0 : (List Int)) => ([(1, .ptr 0 0), (2, .nl), (3, .vc 1)], [.box (encSt32 x0), vecL (encI .i32) 1 21 s0])) s0 ?_ ?_
 ·obtain ⟨s2, hy1, h1⟩ := bindS hy0
  refine K.cutN (by kernel_rfl) (fun (s2 : Unit) => ([(1, .ptr 0 0), (2, .nl), (3, .nl), (11, .bool (decide (x0.MaxSig_ > 0)))], [.box (encSt32 x0)])) s2 ?_ ?_
  ·refine kR ?_
   refine kC 4 [1,2,3,7] ?_
   refine cTR 7 hy1 (fun h2 => ?_)
   refine kC 4 [1,2,3,11] ?_
   refine kE ?_
   obtain rfl := oi h2
   exact kN [1, 2, 3, 11]
  ·refine cT 11 h1 (fun h3 => ?_)
   refine kF ?_
   refine kSR ?_
   refine kC 2 [1,2,3,24,25] ?_
   obtain ⟨y0, hy2, h4⟩ := bindS h3
   refine RJ.wk (Wk.viv 24 1 21 (by kernel_rfl)) ?_
   refine kCG (some 26) (args := [.vc 1, .agg (encSt32 x0)]) (v := .vc 2) (H2 := [.box (encSt32 x0), .gone, vecL (encI .i32) 1 21 y0]) [1] (pat_places_ok_0o hy2) ?_
   refine kC 1 [1,2,3] ?_
   refine kEN ?_
   refine kSR ?_
   refine kC 3 [1,2,3,29] ?_
   refine kEN ?_
   refine kBJ 29 h4 (fun h5 => ?_) (fun h6 => ?_)
   ·refine kT ?_
    refine kSR ?_
    refine kC 2 [1,2,3,30,31] ?_
    obtain ⟨hm, h7⟩ := asrt h5
    refine RJ.rel (d := (some 32)) (ef := ⟨.vc 4, [2, 3], [(2, .gone), (4, .vec (y0.length + ([46] : List Int).length) 1 21 (y0.flatMap (encI .i32) ++ ([46] : List Int).flatMap (encI .i32)))]⟩) (ef' := ⟨.vc 4, [2, 3], [(2, .gone), (4, vecL (encI .i32) 1 21 (y0 ++ ([46] : List Int)))]⟩) (c := room (y0.length + ([46] : List Int).length)) (tr2 := []) (H2 := [.box (encSt32 x0), .gone, .gone, vecL (encI .i32) 1 21 ([46] : List Int), vecL (encI .i32) 1 21 (y0 ++ ([46] : List Int))]) (by kernel_rfl) hm (fun hc => N.app) (by kernel_rfl) ?_
    refine kC 1 [1,2,3] ?_
    refine kEN ?_
    refine kSR ?_
    refine kC 3 [1,2,3,33,35] ?_
    obtain ⟨y2, hy3, h8⟩ := bindS h7
    refine kCG (some 36) (args := [.vc 4, iM 48, iL x0.MinFrac_]) (v := .vc 5) (H2 := [.box (encSt32 x0), .gone, .gone, vecL (encI .i32) 1 21 ([46] : List Int), .gone, vecL (encI .i32) 1 21 y2]) [4] (pat_repeat_ok_0o hy3) ?_
    refine kC 1 [1,2,3] ?_
    refine kEN ?_
    refine J.keep [1, 2, 3] (L2 := [(1, .ptr 0 0), (2, .nl), (3, .vc 5)]) (by kernel_rfl) ?_
    refine K.draw (by kernel_rfl) (by kernel_rfl) (by kernel_rfl) (H2 := [.box (encSt32 x0), .gone, .gone, vecL (encI .i32) 1 21 ([46] : List Int), .gone, vecL (encI .i32) 1 21 y2, .res, .res]) (by kernel_rfl) (n := 6) (by kernel_rfl) ?_
    refine kD 5 ?_
    obtain ⟨y1, hy4, h9⟩ := bindS h8
    refine RJ.call0 (d := (some 42)) (f := 188) (args := [iL x0.MinFrac_]) (v := iL y1) (tr2 := [([], []), ([], []), ([0, 1], []), ([], []), ([0, 1], []), ([], [12, 13])]) (by kernel_rfl) (by kernel_rfl) (.cons (Le.refl _) .nil) (pat_some_ok hy4) (by kernel_rfl) ?_
    refine RJ.segD 1 (tr2 := [([], []), ([], []), ([0, 1], []), ([], []), ([0, 1], []), ([], [12, 13]), ([], [])]) (L2 := [(43, iL (IntKind.wrap .i64 (x0.MaxFrac_ - y1))), (42, iL y1), (41, iL x0.MinFrac_), (40, .ptr 0 7), (39, iL x0.MaxFrac_), (38, .ptr 0 8), (37, .vc 5), (1, .ptr 0 0), (2, .nl), (3, .vc 5)]) (H2 := [.box (encSt32 x0), .gone, .gone, vecL (encI .i32) 1 21 ([46] : List Int), .gone, vecL (encI .i32) 1 21 y2, .res, .res]) (by kernel_rfl) ?_
    obtain ⟨y3, hy5, h10⟩ := bindS h9
    refine RJ.callX (d := (some 44)) (f := 187) (args := [.vc 5, iM 35, iL (IntKind.wrap .i64 (x0.MaxFrac_ - y1))]) (args0 := [.vc 0, iM 35, iL (IntKind.wrap .i64 (x0.MaxFrac_ - y1))]) (v0 := .vc 1) (v := .vc 7) (tr2 := [([], []), ([], []), ([0, 1], []), ([], []), ([0, 1], []), ([], [12, 13]), ([], []), ([10, 11], [10, 11, 14, 15, 14, 15])]) (H0 := [vecL (encI .i32) 1 21 y2]) (H0' := [.gone, vecL (encI .i32) 1 21 y3]) (H2 := [.box (encSt32 x0), .gone, .gone, vecL (encI .i32) 1 21 ([46] : List Int), .gone, .gone, .res, vecL (encI .i32) 1 21 y3]) 7 [5] (by kernel_rfl) (by kernel_rfl) (by kernel_rfl) (by kernel_rfl) (by kernel_rfl) (by kernel_rfl) (by decide) (by kernel_rfl) (by kernel_rfl) (by kernel_rfl) (.cons (Le.refl _) (.cons (Le.refl _) (.cons (Le.refl _) .nil))) (pat_repeat_ok_0o hy5) (by kernel_rfl) (by kernel_rfl) (by kernel_rfl) ?_
    refine kD 1 ?_
    refine kE ?_
    obtain rfl := oi h10
    refine kW (L2 := [(1, .ptr 0 0), (2, .nl), (3, .vc 1)]) (H2 := [.box (encSt32 x0), vecL (encI .i32) 1 21 y3]) hFH hFD [0, 7] ?_
    exact kN [1, 2, 3]
   ·refine kF ?_
    refine kK ?_
    obtain rfl := oi h6
    refine kW (L2 := [(1, .ptr 0 0), (2, .nl), (3, .vc 1)]) (H2 := [.box (encSt32 x0), vecL (encI .i32) 1 21 y0]) hFH hFD [0, 2] ?_
    exact kN [1, 2, 3]
 ·obtain ⟨s1, hy6, h11⟩ := bindS h0
  refine K.cutN (by kernel_rfl) (fun (s1 : (List Int)) => ([(2, .nl), (3, .vc 0)], [vecL (encI .i32) 1 21 s1])) s1 ?_ ?_
  ·refine kSR ?_
   refine kC 3 [1,2,3,47] ?_
   refine kEN ?_
   refine kBJ 47 hy6 (fun h12 => ?_) (fun h13 => ?_)
   ·refine kT ?_
    refine kSR ?_
    refine kC 2 [1,2,3,48,49] ?_
    obtain ⟨hm, h14⟩ := asrt h12
    refine RJ.rel (d := (some 50)) (ef := ⟨.vc 3, [1, 2], [(1, .gone), (3, .vec (s0.length + ([69] : List Int).length) 1 21 (s0.flatMap (encI .i32) ++ ([69] : List Int).flatMap (encI .i32)))]⟩) (ef' := ⟨.vc 3, [1, 2], [(1, .gone), (3, vecL (encI .i32) 1 21 (s0 ++ ([69] : List Int)))]⟩) (c := room (s0.length + ([69] : List Int).length)) (tr2 := []) (H2 := [.box (encSt32 x0), .gone, vecL (encI .i32) 1 21 ([69] : List Int), vecL (encI .i32) 1 21 (s0 ++ ([69] : List Int))]) (by kernel_rfl) hm (fun hc => N.app) (by kernel_rfl) ?_
    refine kC 1 [1,2,3] ?_
    refine kEN ?_
    obtain ⟨s3, hy7, h15⟩ := bindS h14
    refine K.cutN (by kernel_rfl) (fun (s3 : Unit) => ([(1, .ptr 0 0), (2, .nl), (3, .vc 1)], [.box (encSt32 x0), vecL (encI .i32) 1 21 (s0 ++ ([69] : List Int))])) s3 ?_ ?_
    ·refine kSR ?_
     refine kC 2 [1,2,3,52] ?_
     refine kEN ?_
     refine cT 52 hy7 (fun h16 => ?_)
     refine kF ?_
     refine kK ?_
     obtain rfl := oi h16
     refine kW (L2 := [(1, .ptr 0 0), (2, .nl), (3, .vc 1)]) (H2 := [.box (encSt32 x0), vecL (encI .i32) 1 21 (s0 ++ ([69] : List Int))]) hFH hFD [0, 3] ?_
     exact kN [1, 2, 3]
    ·refine kR ?_
     refine kC 3 [2,3,56,58] ?_
     obtain ⟨y4, hy8, h17⟩ := bindS h15
     refine kCG (some 59) (args := [.vc 1, iM 48, iL x0.Exp_]) (v := .vc 2) (H2 := [.box (encSt32 x0), .gone, vecL (encI .i32) 1 21 y4]) [1] (pat_repeat_ok_0o hy8) ?_
     refine kC 1 [2,3] ?_
     refine kE ?_
     obtain rfl := oi h17
     refine kW (L2 := [(2, .nl), (3, .vc 0)]) (H2 := [vecL (encI .i32) 1 21 y4]) hFH hFD [2] ?_
     exact kN [2, 3]
   ·refine kF ?_
    refine kK ?_
    obtain rfl := oi h13
    refine kW (L2 := [(2, .nl), (3, .vc 0)]) (H2 := [vecL (encI .i32) 1 21 s0]) hFH hFD [1] ?_
    exact kN [2, 3]
  ·refine kSR ?_
   refine kC 2 [2] ?_
   refine kEN ?_
   refine kX ?_
   obtain rfl := oi h11
   refine PJ.wk (Wk.freeze 0 (n := s1.length) (k := 1) (e := 21) (cs := s1.flatMap (encI .i32)) (by kernel_rfl)) ?_
   exact kZ hFn hFH hFD
def pat_pad (x0 : List Int) (x1 : St32) (x2 : Int) : Option (List Int) :=
 (bif (decide (¬ x1.PadAt_ = x2)) then (some x0) else (bif room (x0.length + ([42, x1.Pad_] : List Int).length) then (some (x0 ++ ([42, x1.Pad_] : List Int))) else none))
theorem pat_pad_ok_0o {x0 : List Int} {x1 : St32} {x2 : Int} {r : List Int} (h : pat_pad x0 x1 x2 = some r) : SC Tryz.prog 169 [.vc 0, .agg (encSt32 x1), iL x2] [vecL (encI .i32) 1 21 x0] (.vc 1) [.gone, vecL (encI .i32) 1 21 r] := by
 refine kFn (fn := Tryz.f169) (fun F hFn hFH hFD => ?_)
 unfold pat_pad at h
 refine J.wk (Wk.move 0 (n := x0.length) (k := 1) (e := 21) (cs := x0.flatMap (encI .i32)) (by kernel_rfl)) ?_
 refine kSR ?_
 refine kC 2 [0,2,4,6] ?_
 refine kEN ?_
 refine kS ?_
 refine kSR ?_
 refine kC 4 [0,4,6,10] ?_
 refine kEN ?_
 refine kBJ 10 h (fun h0 => ?_) (fun h1 => ?_)
 ·refine kT ?_
  refine kSR ?_
  refine kC 2 [0,4,6] ?_
  refine kEN ?_
  refine kX ?_
  refine PJ.passRet ?_
  obtain rfl := oi h0
  exact kV [0, 1] hFn hFH hFD (v1 := .vc 1)
 ·refine kF ?_
  refine kK ?_
  refine PJ.next ?_
  refine kSR ?_
  refine kC 4 [6,12,15] ?_
  obtain ⟨hm, h2⟩ := asrt h1
  refine RJ.rel (d := (some 16)) (ef := ⟨.vc 4, [1, 3], [(1, .gone), (4, .vec (x0.length + ([42, x1.Pad_] : List Int).length) 1 21 (x0.flatMap (encI .i32) ++ ([42, x1.Pad_] : List Int).flatMap (encI .i32)))]⟩) (ef' := ⟨.vc 4, [1, 3], [(1, .gone), (4, vecL (encI .i32) 1 21 (x0 ++ ([42, x1.Pad_] : List Int)))]⟩) (c := room (x0.length + ([42, x1.Pad_] : List Int).length)) (tr2 := []) (H2 := [.gone, .gone, .box (encSt32 x1), vecL (encI .i32) 1 21 ([42, x1.Pad_] : List Int), vecL (encI .i32) 1 21 (x0 ++ ([42, x1.Pad_] : List Int))]) (by kernel_rfl) hm (fun hc => N.app) (by kernel_rfl) ?_
  refine kC 1 [6] ?_
  refine kEN ?_
  refine kX ?_
  obtain rfl := oi h2
  exact kV [0, 4] hFn hFH hFD (v1 := .vc 4)
def pat_piece (x0 : St106) : Option (List Int) :=
 (bif (decide (x0.Kind_ = 0)) then (bif (decide (x0.R_ = 39)) then none else (some ([x0.R_] : List Int))) else (Option.bind (Option.bind pat_signs_s0 fun y0 => (Option.bind (mapRun (fun (e41 : Int × Int) => (bif (decide (e41.2 = x0.Kind_)) then (some (.inr (.inr ([e41.1] : List Int)))) else (some (.inl ())))) ([(45, 1), (43, 2), (37, 3), (164, 4)] : List (Int × Int))) (joinX fun (_ : Unit) => (some (.inl ()))))) (joinX fun (s0 : Unit) => none)))
theorem pat_piece_ok {x0 : St106} {r : List Int} (h : pat_piece x0 = some r) : SC Tryz.prog 190 [.agg (encSt106 x0)] [] (lR r) [] := by
 refine kFn (fn := Tryz.f190) (fun F hFn hFH hFD => ?_)
 unfold pat_piece at h
 refine kSR ?_
 refine kC 2 [1,2] ?_
 refine kEN ?_
 refine kS ?_
 refine kSR ?_
 refine kC 3 [1,2,7] ?_
 refine kEN ?_
 refine kBJ 7 h (fun h2 => ?_) (fun h3 => ?_)
 ·refine kT ?_
  refine kS ?_
  refine kSR ?_
  refine kC 3 [1,2,10] ?_
  refine kEN ?_
  refine cT 10 h2 (fun h4 => ?_)
  refine kF ?_
  refine kK ?_
  refine PJ.next ?_
  refine kSR ?_
  refine kC 4 [1,2] ?_
  refine kEN ?_
  refine kX ?_
  refine PJ.passRet ?_
  obtain rfl := oi h4
  refine PJ.wk (Wk.freeze 1 (n := ([x0.R_] : List Int).length) (k := 1) (e := 21) (cs := ([x0.R_] : List Int).flatMap (encI .i32)) (by kernel_rfl)) ?_
  exact kZ hFn hFH hFD
 ·refine kF ?_
  refine kK ?_
  refine PJ.next ?_
  obtain ⟨y1, hy0, h0⟩ := bindS h3
  refine K.cutX (by kernel_rfl) (fun (s0 : Unit) => ([(2, .nl)], [])) y1 ?_ (fun s0 hs => ?_)
  ·refine kSR ?_
   obtain ⟨y0, hy1, h5⟩ := bindS hy0
   refine kCG (some 19) (args := []) (v := .mp 1) (H2 := [.box (encSt106 x0), .map [(iM 45, iL 1), (iM 43, iL 2), (iM 37, iL 3), (iM 164, iL 4)]]) [] (pat_signs_s0_ok hy1) ?_
   refine RJ.range (d := (some 20)) (i := 1) (n := (mapL (fun k : Int => iM k) (fun k : Int => iL k) ([(45, 1), (43, 2), (37, 3), (164, 4)] : List (Int × Int))).length) (by kernel_rfl) ?_
   refine kEN ?_
   refine kb 0 ?_
   refine J.wk (Wk.sel (L2 := [(1, .ptr 0 0), (2, .nl), (20, .ptr 1 0)]) (H2 := [.box (encSt106 x0), .itr 2 ((mapL (fun k : Int => iM k) (fun k : Int => iL k) ([(45, 1), (43, 2), (37, 3), (164, 4)] : List (Int × Int))).length) ([] : List Nat), .map (mapL (fun k : Int => iM k) (fun k : Int => iL k) ([(45, 1), (43, 2), (37, 3), (164, 4)] : List (Int × Int)))]) 0 (by rw [hFH]; rfl) hFD [0, 2, 1] (by kernel_rfl) (by simp only [List.map_cons, List.map_nil, rn_mapL (ek := (fun k : Int => iM k)) (ev := (fun k : Int => iL k)) (fun _ _ => rfl) (fun _ _ => rfl)]; kernel_rfl) (by decide) (by simp only [List.all_cons, List.all_nil, refs_mapL (ek := (fun k : Int => iM k)) (ev := (fun k : Int => iL k)) (fun _ _ => rfl) (fun _ _ => rfl)]; kernel_rfl) (by kernel_rfl) (by kernel_rfl) (by kernel_rfl)) ?_
   obtain ⟨y2, hy2, h1⟩ := bindS h5
   refine K.mapLoop 20 21 22 0 1 2 (n := (mapL (fun k : Int => iM k) (fun k : Int => iL k) ([(45, 1), (43, 2), (37, 3), (164, 4)] : List (Int × Int))).length) (by kernel_rfl) (by kernel_rfl) _ _ (fun p : Int × Int => ((fun k : Int => iM k) p.1, (fun k : Int => iL k) p.2)) hy2 [1, 2, 20] (L2 := [(1, .ptr 0 0), (2, .nl), (20, .ptr 1 0)]) (by kernel_rfl) (by kernel_rfl) (by kernel_rfl) (by kernel_rfl) (by kernel_rfl) (by kernel_rfl) (fun sq => [.box (encSt106 x0), .itr 2 ((mapL (fun k : Int => iM k) (fun k : Int => iL k) ([(45, 1), (43, 2), (37, 3), (164, 4)] : List (Int × Int))).length) sq, .map (mapL (fun k : Int => iM k) (fun k : Int => iL k) ([(45, 1), (43, 2), (37, 3), (164, 4)] : List (Int × Int)))]) (by kernel_rfl) (fun _ _ => by kernel_rfl) (fun _ => by kernel_rfl) (fun _ => by kernel_rfl) rfl (fun sv42 he0 => ?_) (fun sv42 bv43 e41 x51 hb0 hx38 => ?_)
   ·subst he0
    have h6 := joinX_inl h1
    refine PJ.blockOut ?_
    obtain rfl := oi h6
    refine kW (L2 := [(2, .nl)]) (H2 := []) hFH hFD [] ?_
    exact kXl [2]
   ·refine kb 1 ?_
    refine kSR ?_
    refine RJ.entry (d := (some 23)) (i := 2) (n := (mapL (fun k : Int => iM k) (fun k : Int => iL k) ([(45, 1), (43, 2), (37, 3), (164, 4)] : List (Int × Int))).length) (b := bv43) (s := sv42) (kv := ((iM e41.1 : SV), (iL e41.2 : SV))) (by kernel_rfl) (by kernel_rfl) rfl hb0 ?_
    refine kC 4 [1,2,3,4,20] ?_
    refine kEN ?_
    refine kSR ?_
    refine kC 4 [1,2,3,20,29] ?_
    refine kEN ?_
    refine kBJ 29 hx38 (fun h7 => ?_) (fun h8 => ?_)
    ·refine kT ?_
     refine kSR ?_
     refine kC 3 [1,2,20] ?_
     refine kEN ?_
     refine kX ?_
     refine PJ.blockRet ?_
     obtain rfl := oi h7
     refine PJ.mapOut (fun e => nomatch e) (fun he1 => ?_)
     subst he1
     have h9 := joinX_inr h1
     refine PJ.blockRet ?_
     obtain rfl := oi h9
     have h10 := joinX_inr h0
     refine PJ.cutXr (fun e => nomatch e) ?_
     obtain rfl := oi h10
     refine PJ.wk (Wk.freeze 3 (n := ([e41.1] : List Int).length) (k := 1) (e := 21) (cs := ([e41.1] : List Int).flatMap (encI .i32)) (by kernel_rfl)) ?_
     exact kZ hFn hFH hFD
    ·refine kF ?_
     refine kK ?_
     refine PJ.blockNormal ?_
     obtain rfl := oi h8
     exact PJ.mapNext [1, 2, 20] (by kernel_rfl) (by kernel_rfl)
  ·subst hs
   have h11 := joinX_inl h0
   refine kSR ?_
   cases h11
def pat_affix (x0 : List Int) (x1 : List St106) : Option (List Int) :=
 (Option.bind (loopN (fun (s0 : Int × (List Int)) => (bif (decide (s0.1 < (x1.length : Int))) then (Option.bind (bif inR s0.1 x1.length then (Option.bind (bif (decide (((nth x1 s0.1).Kind_) = 0)) then (some ((decide (((nth x1 s0.1).R_) = 39)))) else (some false)) fun (s1 : Bool) => (Option.bind (bif s1 then none else (bif (!s1) then (bif (decide (((nth x1 s0.1).Kind_) = 0)) then (Option.bind (pat_special ((nth x1 s0.1).R_)) fun y1 => (some y1)) else (some false)) else none)) fun (s3 : Bool) => (Option.bind (bif (s3 != false) then none else (some ())) fun (s5 : Unit) => (Option.bind (pat_piece (nth x1 s0.1)) fun y0 => (bif room (s0.2.length + y0.length) then (some (s0.2 ++ y0)) else none))))) else none) fun (s4 : (List Int)) => (some (.inl ((IntKind.wrap .i64 (s0.1 + 1)), s4)))) else (some (.inr s0.2)))) big (0, x0)) fun (s2 : (List Int)) => (Option.bind (some ()) fun (s6 : Unit) => (some s2)))
theorem pat_affix_ok_0o {x0 : List Int} {x1 : List St106} {r : List Int} (h : pat_affix x0 x1 = some r) : SC Tryz.prog 170 [.vc 0, lsv encSt106 2 x1] [vecL (encI .i32) 1 21 x0] (.vc 1) [.gone, vecL (encI .i32) 1 21 r] := by
 refine kFn (fn := Tryz.f170) (fun F hFn hFH hFD => ?_)
 unfold pat_affix at h
 refine J.wk (Wk.move 0 (n := x0.length) (k := 1) (e := 21) (cs := x0.flatMap (encI .i32)) (by kernel_rfl)) ?_
 refine kSR ?_
 refine kC 1 [0,1,4] ?_
 refine kEN ?_
 refine kSR ?_
 refine kC 1 [0,1,4,5] ?_
 refine kEN ?_
 obtain ⟨s2, hy0, h0⟩ := bindS h
 refine K.cutN (by kernel_rfl) (fun (s2 : (List Int)) => ([(0, .vc 1), (4, .nl), (5, .bool false)], [.gone, vecL (encI .i32) 1 21 s2])) s2 ?_ ?_
 ·refine kSR ?_
  refine kC 3 [0,4,5,10,11,12] ?_
  refine kEN ?_
  refine kb 0 ?_
  refine kl (fun (s0 : Int × (List Int)) => ([(0, .vc 1), (4, .nl), (5, .bool false), (10, lsv encSt106 2 x1), (11, iL (x1.length : Int)), (12, iL s0.1)], [.gone, vecL (encI .i32) 1 21 s0.2])) hy0 [0, 4, 5, 10, 11, 12] (fun s0 x621 hs0 => ?_)
  refine kSR ?_
  refine kC 1 [0,4,5,10,11,12,13] ?_
  refine kEN ?_
  refine kS ?_
  refine kBJ 13 hs0 (fun h1 => ?_) (fun h2 => ?_)
  ·refine kT ?_
   refine kK ?_
   refine PJ.next ?_
   obtain ⟨s4, hy1, h3⟩ := bindS h1
   refine K.cutN (by kernel_rfl) (fun (s4 : (List Int)) => ([(0, .vc 1), (4, .nl), (5, .bool false), (10, lsv encSt106 2 x1), (11, iL (x1.length : Int)), (12, iL s0.1)], [.gone, vecL (encI .i32) 1 21 s4])) s4 ?_ ?_
   ·refine kb 1 ?_
    refine kSR ?_
    obtain ⟨hm, h4⟩ := asrt hy1
    refine kI 14 encSt106_len hm ?_
    refine kC 3 [0,4,5,7,10,11,12] ?_
    refine kEN ?_
    obtain ⟨s1, hy2, h5⟩ := bindS h4
    refine K.cutN (by kernel_rfl) (fun (s1 : Bool) => ([(0, .vc 1), (4, .nl), (5, .bool false), (7, .ptr 2 0), (8, .bool s1), (10, lsv encSt106 2 x1), (11, iL (x1.length : Int)), (12, iL s0.1)], [.gone, vecL (encI .i32) 1 21 s0.2, .box [iL ((nth x1 s0.1).Kind_), iM ((nth x1 s0.1).R_)]])) s1 ?_ ?_
    ·refine kR ?_
     refine kC 4 [0,4,5,7,10,11,12,19] ?_
     refine kB 19 hy2 (fun h6 => ?_) (fun h7 => ?_)
     ·refine kC 5 [0,4,5,7,8,10,11,12] ?_
      refine kE ?_
      obtain rfl := oi h6
      exact kN [0, 4, 5, 7, 8, 10, 11, 12]
     ·refine kC 5 [0,4,5,7,8,10,11,12] ?_
      refine kE ?_
      obtain rfl := oi h7
      exact kN [0, 4, 5, 7, 8, 10, 11, 12]
    ·obtain ⟨s3, hy3, h8⟩ := bindS h5
     refine K.cutN (by kernel_rfl) (fun (s3 : Bool) => ([(0, .vc 1), (4, .nl), (5, .bool false), (7, .ptr 2 0), (9, .bool s3), (10, lsv encSt106 2 x1), (11, iL (x1.length : Int)), (12, iL s0.1)], [.gone, vecL (encI .i32) 1 21 s0.2, .box [iL ((nth x1 s0.1).Kind_), iM ((nth x1 s0.1).R_)]])) s3 ?_ ?_
     ·refine kR ?_
      refine kC 2 [0,4,5,7,8,10,11,12,25] ?_
      refine cTR 25 hy3 (fun h9 => ?_)
      refine kC 6 [0,4,5,7,10,11,12,28,31] ?_
      refine cFR 31 h9 (fun h10 => ?_)
      refine kC 5 [0,4,5,7,10,11,12,28,36] ?_
      refine kB 36 h10 (fun h11 => ?_) (fun h12 => ?_)
      ·refine kC 2 [0,4,5,7,10,11,12,28,36,38] ?_
       obtain ⟨y1, hy4, h13⟩ := bindS h11
       refine kA 39 (pat_special_ok hy4) ?_
       refine kC 3 [0,4,5,7,9,10,11,12] ?_
       refine kE ?_
       obtain rfl := oi h13
       exact kN [0, 4, 5, 7, 9, 10, 11, 12]
      ·refine kC 6 [0,4,5,7,9,10,11,12] ?_
       refine kE ?_
       obtain rfl := oi h12
       exact kN [0, 4, 5, 7, 9, 10, 11, 12]
     ·obtain ⟨s5, hy5, h14⟩ := bindS h8
      refine K.cutN (by kernel_rfl) (fun (s5 : Unit) => ([(0, .vc 1), (4, .nl), (5, .bool false), (7, .ptr 2 0), (10, lsv encSt106 2 x1), (11, iL (x1.length : Int)), (12, iL s0.1)], [.gone, vecL (encI .i32) 1 21 s0.2, .box [iL ((nth x1 s0.1).Kind_), iM ((nth x1 s0.1).R_)]])) s5 ?_ ?_
      ·refine kSR ?_
       refine kC 3 [0,4,5,7,9,10,11,12,44] ?_
       refine kEN ?_
       refine cT 44 hy5 (fun h15 => ?_)
       refine kF ?_
       refine kK ?_
       obtain rfl := oi h15
       exact kN [0, 4, 5, 7, 10, 11, 12]
      ·refine kR ?_
       refine kC 2 [0,4,5,10,11,12,49,50] ?_
       obtain ⟨y0, hy6, h16⟩ := bindS h14
       refine kA 51 (pat_piece_ok hy6) ?_
       obtain ⟨hm, h17⟩ := asrt h16
       refine RJ.rel (d := (some 52)) (ef := ⟨.vc 3, [1], [(1, .gone), (3, .vec (s0.2.length + y0.length) 1 21 (s0.2.flatMap (encI .i32) ++ y0.flatMap (encI .i32)))]⟩) (ef' := ⟨.vc 3, [1], [(1, .gone), (3, vecL (encI .i32) 1 21 (s0.2 ++ y0))]⟩) (c := room (s0.2.length + y0.length)) (tr2 := []) (H2 := [.gone, .gone, .box [iL ((nth x1 s0.1).Kind_), iM ((nth x1 s0.1).R_)], vecL (encI .i32) 1 21 (s0.2 ++ y0)]) (by kernel_rfl) hm (fun hc => N.app) (by kernel_rfl) ?_
       refine kC 1 [0,4,5,10,11,12] ?_
       refine kE ?_
       refine PJ.blockNormal ?_
       obtain rfl := oi h17
       refine kW (L2 := [(0, .vc 1), (4, .nl), (5, .bool false), (10, lsv encSt106 2 x1), (11, iL (x1.length : Int)), (12, iL s0.1)]) (H2 := [.gone, vecL (encI .i32) 1 21 (s0.2 ++ y0)]) hFH hFD [0, 3] ?_
       exact kN [0, 4, 5, 10, 11, 12]
   ·refine kR ?_
    refine kC 2 [0,4,5,10,11,12] ?_
    refine kE ?_
    obtain rfl := oi h3
    exact kLN [0, 4, 5, 10, 11, 12]
  ·refine kF ?_
   refine K.exit 0 (by kernel_rfl) ?_
   refine PJ.passExit ?_
   obtain rfl := oi h2
   refine PJ.loopOut (fun e => nomatch e) (fun he0 => ?_)
   have h18 := congrArg some he0
   refine PJ.blockOut ?_
   obtain rfl := oi h18
   exact kN [0, 4, 5]
 ·obtain ⟨s6, hy7, h19⟩ := bindS h0
  refine K.cutN (by kernel_rfl) (fun (s6 : Unit) => ([(0, .vc 1), (4, .nl)], [.gone, vecL (encI .i32) 1 21 s2])) s6 ?_ ?_
  ·refine kSR ?_
   refine kC 1 [0,4,54] ?_
   refine kEN ?_
   refine kF ?_
   refine kK ?_
   obtain rfl := oi hy7
   exact kN [0, 4]
  ·refine kSR ?_
   refine kC 2 [4] ?_
   refine kEN ?_
   refine kX ?_
   obtain rfl := oi h19
   exact kV [0, 1] hFn hFH hFD (v1 := .vc 1)
def pat_pattern (x0 : St32) : Option (List Int) :=
 (Option.bind (pat_number x0) fun y0 => (Option.bind (pat_pad ([] : List Int) x0 1) fun y3 => (Option.bind (pat_affix y3 x0.Pre_) fun y4 => (Option.bind (pat_pad y4 x0 2) fun y1 => (bif room (y1.length + y0.length) then (Option.bind (pat_pad (y1 ++ y0) x0 3) fun y5 => (Option.bind (pat_affix y5 x0.Suf_) fun y6 => (Option.bind (pat_pad y6 x0 4) fun y2 => (Option.bind (bif x0.Neg_ then none else (some ())) fun (s0 : Unit) => (some y2))))) else none)))))
theorem pat_pattern_ok {x0 : St32} {r : List Int} (h : pat_pattern x0 = some r) : SC Tryz.prog 145 [.agg (encSt32 x0)] [] (lR r) [] := by
 refine kFn (fn := Tryz.f145) (fun F hFn hFH hFD => ?_)
 unfold pat_pattern at h
 refine kSR ?_
 refine kC 2 [1,2] ?_
 refine kEN ?_
 refine kSR ?_
 refine kC 1 [1,2,5] ?_
 obtain ⟨y0, hy0, h0⟩ := bindS h
 refine kA 6 (pat_number_ok hy0) ?_
 refine kC 1 [1,2,3] ?_
 refine kEN ?_
 refine kSR ?_
 refine kC 1 [1,2,3,7] ?_
 obtain ⟨y3, hy1, h1⟩ := bindS h0
 refine kCG (some 8) (args := [.nl, .agg (encSt32 x0), iL 1]) (v := .vc 2) (H2 := [.box (encSt32 x0), .gone, vecL (encI .i32) 1 21 y3]) [] (SC.nil (args1 := []) (args2 := [.agg (encSt32 x0), iL 1]) (H0 := []) (k := 1) (e := 21) (pat_pad_ok_0o hy1)) ?_
 refine kC 1 [1,2,3,4] ?_
 refine kEN ?_
 refine kSR ?_
 refine kC 3 [1,2,3,4,9,11] ?_
 obtain ⟨y4, hy2, h2⟩ := bindS h1
 refine kCG (some 12) (args := [.vc 2, lsv encSt106 2 x0.Pre_]) (v := .vc 3) (H2 := [.box (encSt32 x0), .gone, .gone, vecL (encI .i32) 1 21 y4]) [2] (pat_affix_ok_0o hy2) ?_
 refine kC 1 [1,2,3,4] ?_
 refine kEN ?_
 refine kSR ?_
 refine kC 2 [1,2,3,4,13,14] ?_
 obtain ⟨y1, hy3, h3⟩ := bindS h2
 refine kCG (some 15) (args := [.vc 3, .agg (encSt32 x0), iL 2]) (v := .vc 4) (H2 := [.box (encSt32 x0), .gone, .gone, .gone, vecL (encI .i32) 1 21 y1]) [3] (pat_pad_ok_0o hy3) ?_
 refine RJ.seg 1 [1, 2, 3, 4] (L2 := [(1, .ptr 0 0), (2, .nl), (3, lR y0), (4, .vc 4)]) (H2 := [.box (encSt32 x0), .gone, .gone, .gone, vecL (encI .i32) 1 21 y1]) (by kernel_rfl) ?_
 refine kEN ?_
 refine kSR ?_
 refine kC 2 [1,2,3,4,16,17] ?_
 obtain ⟨hm, h4⟩ := asrt h3
 refine RJ.rel (d := (some 18)) (ef := ⟨.vc 5, [4], [(4, .gone), (5, .vec (y1.length + y0.length) 1 21 (y1.flatMap (encI .i32) ++ y0.flatMap (encI .i32)))]⟩) (ef' := ⟨.vc 5, [4], [(4, .gone), (5, vecL (encI .i32) 1 21 (y1 ++ y0))]⟩) (c := room (y1.length + y0.length)) (tr2 := []) (H2 := [.box (encSt32 x0), .gone, .gone, .gone, .gone, vecL (encI .i32) 1 21 (y1 ++ y0)]) (by kernel_rfl) hm (fun hc => N.app) (by kernel_rfl) ?_
 refine kC 1 [1,2,3,4] ?_
 refine kEN ?_
 refine kSR ?_
 refine kC 2 [1,2,3,4,19,20] ?_
 obtain ⟨y5, hy4, h5⟩ := bindS h4
 refine kCG (some 21) (args := [.vc 5, .agg (encSt32 x0), iL 3]) (v := .vc 6) (H2 := [.box (encSt32 x0), .gone, .gone, .gone, .gone, .gone, vecL (encI .i32) 1 21 y5]) [5] (pat_pad_ok_0o hy4) ?_
 refine kC 1 [1,2,3,4] ?_
 refine kEN ?_
 refine kSR ?_
 refine kC 3 [1,2,3,4,22,24] ?_
 obtain ⟨y6, hy5, h6⟩ := bindS h5
 refine kCG (some 25) (args := [.vc 6, lsv encSt106 2 x0.Suf_]) (v := .vc 7) (H2 := [.box (encSt32 x0), .gone, .gone, .gone, .gone, .gone, .gone, vecL (encI .i32) 1 21 y6]) [6] (pat_affix_ok_0o hy5) ?_
 refine kC 1 [1,2,3,4] ?_
 refine kEN ?_
 refine kSR ?_
 refine kC 2 [1,2,3,4,26,27] ?_
 obtain ⟨y2, hy6, h7⟩ := bindS h6
 refine kCG (some 28) (args := [.vc 7, .agg (encSt32 x0), iL 4]) (v := .vc 8) (H2 := [.box (encSt32 x0), .gone, .gone, .gone, .gone, .gone, .gone, .gone, vecL (encI .i32) 1 21 y2]) [7] (pat_pad_ok_0o hy6) ?_
 refine kC 1 [1,2,3,4] ?_
 refine kEN ?_
 obtain ⟨s0, hy7, h8⟩ := bindS h7
 refine K.cutN (by kernel_rfl) (fun (s0 : Unit) => ([(2, .nl), (4, .vc 0)], [vecL (encI .i32) 1 21 y2])) s0 ?_ ?_
 ·refine kSR ?_
  refine RJ.seg 2 [1, 2, 3, 4, 30] (L2 := [(1, .ptr 0 0), (2, .nl), (3, lR y0), (4, .vc 8), (30, .bool x0.Neg_)]) (H2 := [.box (encSt32 x0), .gone, .gone, .gone, .gone, .gone, .gone, .gone, vecL (encI .i32) 1 21 y2]) (by kernel_rfl) ?_
  refine kEN ?_
  refine cT 30 hy7 (fun h9 => ?_)
  refine kF ?_
  refine kK ?_
  obtain rfl := oi h9
  refine kW (L2 := [(2, .nl), (4, .vc 0)]) (H2 := [vecL (encI .i32) 1 21 y2]) hFH hFD [8] ?_
  exact kN [2, 4]
 ·refine kSR ?_
  refine kC 2 [2] ?_
  refine kEN ?_
  refine kX ?_
  obtain rfl := oi h8
  refine PJ.wk (Wk.freeze 0 (n := y2.length) (k := 1) (e := 21) (cs := y2.flatMap (encI .i32)) (by kernel_rfl)) ?_
  exact kZ hFn hFH hFD
def pat_Text (x0 : St32) : Option (List UInt8) :=
 (Option.bind (pat_pattern x0) fun y0 => (some (runesS y0)))
theorem pat_Text_ok {x0 : St32} {r : List UInt8} (h : pat_Text x0 = some r) : SC Tryz.prog 116 [.agg (encSt32 x0)] [] (.str r) [] := by
 refine kFn (fn := Tryz.f116) (fun F hFn hFH hFD => ?_)
 unfold pat_Text at h
 refine kSR ?_
 refine kC 2 [1,2] ?_
 refine kEN ?_
 refine kSR ?_
 refine kC 1 [2,3] ?_
 obtain ⟨y0, hy0, h0⟩ := bindS h
 refine kA 4 (pat_pattern_ok hy0) ?_
 refine RJ.rel (d := (some 5)) (ef := ⟨.str ((y0.flatMap (encI .i32)).flatMap Go.Sy.runeB), [], []⟩) (ef' := ⟨.str (runesS y0), [], []⟩) (c := (y0.flatMap (encI .i32)).all isRuneS) (tr2 := []) (H2 := [.box (encSt32 x0)]) (by kernel_rfl) (allRune y0) (fun hc => N.toRStr) (by kernel_rfl) ?_
 refine kC 1 [2] ?_
 refine kEN ?_
 refine kX ?_
 obtain rfl := oi h0
 exact kZ hFn hFH hFD
structure St194 where
 a0_ : Int
 a1_ : Int
 a2_ : Int
 a3_ : Int
 a4_ : Int
 a5_ : Int
 a6_ : Int
 a7_ : Int
 a8_ : Int
 a9_ : Int
 a10_ : Int
 deriving Inhabited, DecidableEq
def encSt194 (x : St194) : List SV := [.int .i64 x.a0_, .int .i64 x.a1_, .int .i64 x.a2_, .int .i64 x.a3_, .int .i64 x.a4_, .int .i64 x.a5_, .int .i64 x.a6_, .int .i64 x.a7_, .int .i64 x.a8_, .int .i64 x.a9_, .int .i64 x.a10_]
theorem encSt194_len (x : St194) : (encSt194 x).length = 11 := rfl
def pat_numbers (x0 : St32) : Option (St194) :=
 (some (⟨x0.Hash_, x0.MinInt_, x0.MinFrac_, x0.MaxFrac_, x0.G1_, x0.G2_, x0.MinSig_, x0.MaxSig_, x0.Exp_, (IntKind.wrap .i64 x0.Pad_), x0.PadAt_⟩ : St194))
theorem pat_numbers_ok {x0 : St32} {r : St194} (h : pat_numbers x0 = some r) : SC Tryz.prog 146 [.agg (encSt32 x0)] [] (.agg (encSt194 r)) [] := by
 refine kFn (fn := Tryz.f146) (fun F hFn hFH hFD => ?_)
 unfold pat_numbers at h
 refine kSR ?_
 refine kC 2 [1,2] ?_
 refine kEN ?_
 refine kSR ?_
 refine kC 25 [2] ?_
 refine kEN ?_
 refine kX ?_
 obtain rfl := oi h
 exact kZ hFn hFH hFD
def api_Tok_ (x0 : List St106) (x1 : List St106) : Option (Bool) :=
 (bif (decide (¬ (x0.length : Int) = (x1.length : Int))) then none else (Option.bind (loopN (fun (s0 : Int) => (bif (decide (s0 < (x0.length : Int))) then (bif inR s0 x0.length then (bif inR s0 x1.length then (bif (!((decide (((nth x0 s0).Kind_) = ((nth x1 s0).Kind_))) && ((decide (((nth x0 s0).R_) = ((nth x1 s0).R_))) && true))) then none else (some (.inl (IntKind.wrap .i64 (s0 + 1))))) else none) else none) else (some (.inr ())))) big 0) fun (s1 : Unit) => (some true)))
theorem api_Tok__ok_o {x0 : List St106} {x1 : List St106} {r : Bool} (h : api_Tok_ x0 x1 = some r) : SC Tryz.prog 147 [lsv encSt106 2 x0, lsv encSt106 2 x1] [] (.bool r) [] := by
 refine kFn (fn := Tryz.f147) (fun F hFn hFH hFD => ?_)
 unfold api_Tok_ at h
 refine kSR ?_
 refine kC 1 [0,1,4] ?_
 refine kEN ?_
 refine kS ?_
 refine kSR ?_
 refine kC 5 [0,1,4,10] ?_
 refine kEN ?_
 refine cT 10 h (fun h0 => ?_)
 refine kF ?_
 refine kK ?_
 refine PJ.next ?_
 obtain ⟨s1, hy0, h1⟩ := bindS h0
 refine K.cutN (by kernel_rfl) (fun (s1 : Unit) => ([(4, .bool false)], [])) s1 ?_ ?_
 ·refine kSR ?_
  refine kC 3 [0,1,4,12,13] ?_
  refine kEN ?_
  refine kb 0 ?_
  refine kl (fun (s0 : Int) => ([(0, lsv encSt106 2 x0), (1, lsv encSt106 2 x1), (4, .bool false), (12, iL (x0.length : Int)), (13, iL s0)], [])) hy0 [0, 1, 4, 12, 13] (fun s0 x64 hs0 => ?_)
  refine kSR ?_
  refine kC 1 [0,1,4,12,13,14] ?_
  refine kEN ?_
  refine kS ?_
  refine kBJ 14 hs0 (fun h2 => ?_) (fun h3 => ?_)
  ·refine kT ?_
   refine kK ?_
   refine PJ.next ?_
   refine kS ?_
   refine kb 1 ?_
   refine kSR ?_
   refine kC 2 [0,1,4,5,12,13] ?_
   refine kEN ?_
   refine kS ?_
   refine J.keep [0, 1, 4, 5, 12, 13] (L2 := [(0, lsv encSt106 2 x0), (1, lsv encSt106 2 x1), (4, .bool false), (5, iL s0), (12, iL (x0.length : Int)), (13, iL s0)]) (by kernel_rfl) ?_
   refine K.draw (by kernel_rfl) (by kernel_rfl) (by kernel_rfl) (H2 := []) (by kernel_rfl) (n := 0) (by kernel_rfl) ?_
   refine kD 2 ?_
   obtain ⟨hm, h4⟩ := asrt h2
   refine kJ 18 (tr2 := [([], []), ([], []), ([], [])]) encSt106_len hm ?_
   refine kD 3 ?_
   obtain ⟨hm, h5⟩ := asrt h4
   refine kJ 22 (tr2 := [([], []), ([], []), ([], []), ([], []), ([], []), ([], []), ([], [])]) encSt106_len hm ?_
   refine kD 2 ?_
   refine kEN ?_
   refine cT 24 h5 (fun h6 => ?_)
   refine kF ?_
   refine kK ?_
   refine PJ.blockNormal ?_
   refine PJ.next ?_
   refine kR ?_
   refine kC 2 [0,1,4,12,13] ?_
   refine kE ?_
   obtain rfl := oi h6
   exact kLN [0, 1, 4, 12, 13]
  ·refine kF ?_
   refine K.exit 0 (by kernel_rfl) ?_
   refine PJ.passExit ?_
   obtain rfl := oi h3
   refine PJ.loopOut (fun e => nomatch e) (fun he0 => ?_)
   have h7 := congrArg some he0
   refine PJ.blockOut ?_
   obtain rfl := oi h7
   exact kN [4]
 ·refine kSR ?_
  refine kC 1 [4] ?_
  refine kEN ?_
  refine kX ?_
  obtain rfl := oi h1
  exact kV [] hFn hFH hFD (v1 := .bool true)
def pat_Same (x0 : St32) (x1 : St32) : Option (Bool) :=
 (Option.bind (Option.bind (pat_numbers x0) fun y0 => (Option.bind (pat_numbers x1) fun y1 => (bif ((decide (y0.a0_ = y1.a0_)) && ((decide (y0.a1_ = y1.a1_)) && ((decide (y0.a2_ = y1.a2_)) && ((decide (y0.a3_ = y1.a3_)) && ((decide (y0.a4_ = y1.a4_)) && ((decide (y0.a5_ = y1.a5_)) && ((decide (y0.a6_ = y1.a6_)) && ((decide (y0.a7_ = y1.a7_)) && ((decide (y0.a8_ = y1.a8_)) && ((decide (y0.a9_ = y1.a9_)) && ((decide (y0.a10_ = y1.a10_)) && true))))))))))) then (bif (x0.Neg_ == x1.Neg_) then (bif (x0.ExpPlus_ == x1.ExpPlus_) then (Option.bind (api_Tok_ x0.Pre_ x1.Pre_) fun y2 => (bif y2 then (Option.bind (api_Tok_ x0.Suf_ x1.Suf_) fun y4 => (bif y4 then (Option.bind (api_Tok_ x0.NPre_ x1.NPre_) fun y5 => (bif y5 then (Option.bind (api_Tok_ x0.NSuf_ x1.NSuf_) fun y3 => (some y3)) else none)) else none)) else none)) else none) else none) else none))) fun (s0 : Bool) => (some s0))
theorem pat_Same_ok {x0 : St32} {x1 : St32} {r : Bool} (h : pat_Same x0 x1 = some r) : SC Tryz.prog 117 [.agg (encSt32 x0), .agg (encSt32 x1)] [] (.bool r) [] := by
 refine kFn (fn := Tryz.f117) (fun F hFn hFH hFD => ?_)
 unfold pat_Same at h
 refine kSR ?_
 refine kC 3 [2,3,4] ?_
 refine kEN ?_
 obtain ⟨s0, hy0, h0⟩ := bindS h
 refine K.cutN (by kernel_rfl) (fun (s0 : Bool) => ([(4, .bool s0)], [])) s0 ?_ ?_
 ·refine J.keep [2, 3, 4] (L2 := [(2, .ptr 0 0), (3, .ptr 1 0), (4, .bool false)]) (by kernel_rfl) ?_
  refine K.draw (by kernel_rfl) (by kernel_rfl) (by kernel_rfl) (H2 := [.box (encSt32 x0), .box (encSt32 x1), .res, .res, .res, .res, .res, .res]) (by kernel_rfl) (n := 2) (by kernel_rfl) ?_
  refine kD 1 ?_
  obtain ⟨y0, hy1, h1⟩ := bindS hy0
  refine RJ.call0 (d := (some 6)) (f := 146) (args := [.agg (encSt32 x0)]) (v := .agg (encSt194 y0)) (tr2 := [([0, 1], []), ([], [4, 5])]) (by kernel_rfl) (by kernel_rfl) (.cons (Le.refl _) .nil) (pat_numbers_ok hy1) (by kernel_rfl) ?_
  refine kD 1 ?_
  obtain ⟨y1, hy2, h2⟩ := bindS h1
  refine RJ.call0 (d := (some 8)) (f := 146) (args := [.agg (encSt32 x1)]) (v := .agg (encSt194 y1)) (tr2 := [([0, 1], []), ([], [4, 5]), ([2, 3], []), ([], [6, 7])]) (by kernel_rfl) (by kernel_rfl) (.cons (Le.refl _) .nil) (pat_numbers_ok hy2) (by kernel_rfl) ?_
  refine kD 2 ?_
  refine cFR 10 h2 (fun h3 => ?_)
  refine kD 7 ?_
  refine cFR 17 h3 (fun h4 => ?_)
  refine kD 7 ?_
  refine cFR 24 h4 (fun h5 => ?_)
  refine kD 4 ?_
  obtain ⟨y2, hy3, h6⟩ := bindS h5
  refine RJ.call0 (d := (some 29)) (f := 147) (args := [lsv encSt106 2 x0.Pre_, lsv encSt106 2 x1.Pre_]) (v := .bool y2) (tr2 := [([0, 1], []), ([], [4, 5]), ([2, 3], []), ([], [6, 7]), ([], []), ([], []), ([], []), ([0, 1], []), ([], []), ([2, 3], []), ([], []), ([], []), ([], []), ([], []), ([0, 1], []), ([], []), ([2, 3], []), ([], []), ([], []), ([], []), ([], []), ([0, 1], []), ([], []), ([2, 3], []), ([], [8, 9])]) (by kernel_rfl) (by kernel_rfl) (.cons (Le.refl _) (.cons (Le.refl _) .nil)) (api_Tok__ok_o hy3) (by kernel_rfl) ?_
  refine kD 2 ?_
  refine cFR 31 h6 (fun h7 => ?_)
  refine RJ.segD 4 (tr2 := [([0, 1], []), ([], [4, 5]), ([2, 3], []), ([], [6, 7]), ([], []), ([], []), ([], []), ([0, 1], []), ([], []), ([2, 3], []), ([], []), ([], []), ([], []), ([], []), ([0, 1], []), ([], []), ([2, 3], []), ([], []), ([], []), ([], []), ([], []), ([0, 1], []), ([], []), ([2, 3], []), ([], [8, 9]), ([], []), ([], []), ([], []), ([0, 1], []), ([], []), ([2, 3], [])]) (L2 := [(35, lsv encSt106 2 x1.Suf_), (34, .ptr 1 1), (33, lsv encSt106 2 x0.Suf_), (32, .ptr 0 1), (31, .bool true), (31, .bool y2), (30, .bool y2), (29, .bool y2), (28, lsv encSt106 2 x1.Pre_), (27, .ptr 1 0), (26, lsv encSt106 2 x0.Pre_), (25, .ptr 0 0), (24, .bool true), (24, .bool (x0.ExpPlus_ == x1.ExpPlus_)), (23, .bool (x0.ExpPlus_ == x1.ExpPlus_)), (22, .bool (x0.ExpPlus_ == x1.ExpPlus_)), (21, .bool x1.ExpPlus_), (20, .ptr 1 14), (19, .bool x0.ExpPlus_), (18, .ptr 0 14), (17, .bool true), (17, .bool (x0.Neg_ == x1.Neg_)), (16, .bool (x0.Neg_ == x1.Neg_)), (15, .bool (x0.Neg_ == x1.Neg_)), (14, .bool x1.Neg_), (13, .ptr 1 4), (12, .bool x0.Neg_), (11, .ptr 0 4), (10, .bool true), (10, .bool (((decide (y0.a0_ = y1.a0_)) && ((decide (y0.a1_ = y1.a1_)) && ((decide (y0.a2_ = y1.a2_)) && ((decide (y0.a3_ = y1.a3_)) && ((decide (y0.a4_ = y1.a4_)) && ((decide (y0.a5_ = y1.a5_)) && ((decide (y0.a6_ = y1.a6_)) && ((decide (y0.a7_ = y1.a7_)) && ((decide (y0.a8_ = y1.a8_)) && ((decide (y0.a9_ = y1.a9_)) && ((decide (y0.a10_ = y1.a10_)) && true))))))))))))), (9, .bool (((decide (y0.a0_ = y1.a0_)) && ((decide (y0.a1_ = y1.a1_)) && ((decide (y0.a2_ = y1.a2_)) && ((decide (y0.a3_ = y1.a3_)) && ((decide (y0.a4_ = y1.a4_)) && ((decide (y0.a5_ = y1.a5_)) && ((decide (y0.a6_ = y1.a6_)) && ((decide (y0.a7_ = y1.a7_)) && ((decide (y0.a8_ = y1.a8_)) && ((decide (y0.a9_ = y1.a9_)) && ((decide (y0.a10_ = y1.a10_)) && true))))))))))))), (8, .agg (encSt194 y1)), (7, .agg (encSt32 x1)), (6, .agg (encSt194 y0)), (5, .agg (encSt32 x0)), (2, .ptr 0 0), (3, .ptr 1 0), (4, .bool false)]) (H2 := [.box (encSt32 x0), .box (encSt32 x1), .res, .res, .res, .res, .res, .res]) (by kernel_rfl) ?_
  obtain ⟨y4, hy4, h8⟩ := bindS h7
  refine RJ.call0 (d := (some 36)) (f := 147) (args := [lsv encSt106 2 x0.Suf_, lsv encSt106 2 x1.Suf_]) (v := .bool y4) (tr2 := [([0, 1], []), ([], [4, 5]), ([2, 3], []), ([], [6, 7]), ([], []), ([], []), ([], []), ([0, 1], []), ([], []), ([2, 3], []), ([], []), ([], []), ([], []), ([], []), ([0, 1], []), ([], []), ([2, 3], []), ([], []), ([], []), ([], []), ([], []), ([0, 1], []), ([], []), ([2, 3], []), ([], [8, 9]), ([], []), ([], []), ([], []), ([0, 1], []), ([], []), ([2, 3], []), ([], [10, 11])]) (by kernel_rfl) (by kernel_rfl) (.cons (Le.refl _) (.cons (Le.refl _) .nil)) (api_Tok__ok_o hy4) (by kernel_rfl) ?_
  refine kD 2 ?_
  refine cFR 38 h8 (fun h9 => ?_)
  refine kD 4 ?_
  obtain ⟨y5, hy5, h10⟩ := bindS h9
  refine RJ.call0 (d := (some 43)) (f := 147) (args := [lsv encSt106 2 x0.NPre_, lsv encSt106 2 x1.NPre_]) (v := .bool y5) (tr2 := [([0, 1], []), ([], [4, 5]), ([2, 3], []), ([], [6, 7]), ([], []), ([], []), ([], []), ([0, 1], []), ([], []), ([2, 3], []), ([], []), ([], []), ([], []), ([], []), ([0, 1], []), ([], []), ([2, 3], []), ([], []), ([], []), ([], []), ([], []), ([0, 1], []), ([], []), ([2, 3], []), ([], [8, 9]), ([], []), ([], []), ([], []), ([0, 1], []), ([], []), ([2, 3], []), ([], [10, 11]), ([], []), ([], []), ([], []), ([0, 1], []), ([], []), ([2, 3], []), ([], [12, 13])]) (by kernel_rfl) (by kernel_rfl) (.cons (Le.refl _) (.cons (Le.refl _) .nil)) (api_Tok__ok_o hy5) (by kernel_rfl) ?_
  refine kD 2 ?_
  refine cFR 45 h10 (fun h11 => ?_)
  refine kD 4 ?_
  obtain ⟨y3, hy6, h12⟩ := bindS h11
  refine RJ.call0 (d := (some 50)) (f := 147) (args := [lsv encSt106 2 x0.NSuf_, lsv encSt106 2 x1.NSuf_]) (v := .bool y3) (tr2 := [([0, 1], []), ([], [4, 5]), ([2, 3], []), ([], [6, 7]), ([], []), ([], []), ([], []), ([0, 1], []), ([], []), ([2, 3], []), ([], []), ([], []), ([], []), ([], []), ([0, 1], []), ([], []), ([2, 3], []), ([], []), ([], []), ([], []), ([], []), ([0, 1], []), ([], []), ([2, 3], []), ([], [8, 9]), ([], []), ([], []), ([], []), ([0, 1], []), ([], []), ([2, 3], []), ([], [10, 11]), ([], []), ([], []), ([], []), ([0, 1], []), ([], []), ([2, 3], []), ([], [12, 13]), ([], []), ([], []), ([], []), ([0, 1], []), ([], []), ([2, 3], []), ([], [14, 15])]) (by kernel_rfl) (by kernel_rfl) (.cons (Le.refl _) (.cons (Le.refl _) .nil)) (api_Tok__ok_o hy6) (by kernel_rfl) ?_
  refine kD 2 ?_
  refine kE ?_
  obtain rfl := oi h12
  refine kW (L2 := [(4, .bool y3)]) (H2 := []) hFH hFD [] ?_
  exact kN [4]
 ·refine kX ?_
  obtain rfl := oi h0
  exact kZ hFn hFH hFD
def pat_Right (x0 : St32) : Option (Bool) :=
 (Option.bind (pat_Text x0) fun y2 => (Option.bind (pat_Parse y2) fun y0 => (Option.bind (bif (decide (y0.2.2 = 0)) then (Option.bind (pat_Same x0 y0.1) fun y1 => (some y1)) else none) fun (s0 : Bool) => (some s0))))
theorem pat_Right_ok {x0 : St32} {r : Bool} (h : pat_Right x0 = some r) : SC Tryz.prog 77 [.agg (encSt32 x0)] [] (.bool r) [] := by
 refine kFn (fn := Tryz.f77) (fun F hFn hFH hFD => ?_)
 unfold pat_Right at h
 refine kSR ?_
 refine kC 2 [1,2] ?_
 refine kEN ?_
 refine kSR ?_
 refine kC 1 [1,2,7] ?_
 obtain ⟨y2, hy0, h0⟩ := bindS h
 refine kA 8 (pat_Text_ok hy0) ?_
 obtain ⟨y0, hy1, h1⟩ := bindS h0
 refine kA 9 (pat_Parse_ok hy1) ?_
 refine kC 8 [1,2,3,5] ?_
 refine kEN ?_
 obtain ⟨s0, hy2, h2⟩ := bindS h1
 refine K.cutN (by kernel_rfl) (fun (s0 : Bool) => ([(2, .bool s0)], [])) s0 ?_ ?_
 ·refine kR ?_
  refine kC 3 [1,2,3,15] ?_
  refine cFR 15 hy2 (fun h3 => ?_)
  refine kC 2 [2,15,16,17] ?_
  obtain ⟨y1, hy3, h4⟩ := bindS h3
  refine kA 18 (pat_Same_ok hy3) ?_
  refine kC 2 [2] ?_
  refine kE ?_
  obtain rfl := oi h4
  refine kW (L2 := [(2, .bool y1)]) (H2 := []) hFH hFD [] ?_
  exact kN [2]
 ·refine kX ?_
  obtain rfl := oi h2
  exact kZ hFn hFH hFD
def loc_read (x0 : List UInt8) : Option (St32 × Bool) :=
 (Option.bind (pat_Parse x0) fun y0 => (Option.bind (bif (decide (y0.2.2 = 0)) then (Option.bind (pat_Right y0.1) fun y1 => (some y1)) else none) fun (s0 : Bool) => (some (y0.1, s0))))
theorem loc_read_ok {x0 : List UInt8} {r : St32 × Bool} (h : loc_read x0 = some r) : SC Tryz.prog 37 [.str x0] [] (.tup [.agg (encSt32 r.1), .bool r.2]) [] := by
 refine kFn (fn := Tryz.f37) (fun F hFn hFH hFD => ?_)
 unfold loc_read at h
 refine kSR ?_
 refine kC 2 [0,2,3] ?_
 refine kEN ?_
 refine kSR ?_
 refine kC 1 [2,3,8] ?_
 obtain ⟨y0, hy0, h0⟩ := bindS h
 refine kA 9 (pat_Parse_ok hy0) ?_
 refine kC 8 [2,3,4,6] ?_
 refine kEN ?_
 obtain ⟨s0, hy1, h1⟩ := bindS h0
 refine K.cutN (by kernel_rfl) (fun (s0 : Bool) => ([(2, .ptr 0 0), (3, .bool s0)], [.box (encSt32 y0.1)])) s0 ?_ ?_
 ·refine J.keep [2, 3, 4, 6] (L2 := [(2, .ptr 0 0), (3, .bool false), (4, .ptr 1 0), (6, iL y0.2.2)]) (by kernel_rfl) ?_
  refine K.draw (by kernel_rfl) (by kernel_rfl) (by kernel_rfl) (H2 := [.box [.nl, .nl, .nl, .nl, .bool false, iL 0, iL 0, iL 0, iL 0, iL 0, iL 0, iL 0, iL 0, iL 0, .bool false, iM 0, iL 0], .box (encSt32 y0.1), .res]) (by kernel_rfl) (n := 2) (by kernel_rfl) ?_
  refine kD 4 ?_
  refine cFR 16 hy1 (fun h2 => ?_)
  refine kD 1 ?_
  obtain ⟨y1, hy2, h3⟩ := bindS h2
  refine RJ.call0 (d := (some 18)) (f := 77) (args := [.agg (encSt32 y0.1)]) (v := .bool y1) (tr2 := [([2, 3], []), ([], []), ([], []), ([], []), ([2, 3], []), ([], [4, 5])]) (by kernel_rfl) (by kernel_rfl) (.cons (Le.refl _) .nil) (pat_Right_ok hy2) (by kernel_rfl) ?_
  refine kD 3 ?_
  refine kE ?_
  obtain rfl := oi h3
  refine kW (L2 := [(2, .ptr 0 0), (3, .bool y1)]) (H2 := [.box (encSt32 y0.1)]) hFH hFD [0] ?_
  exact kN [2, 3]
 ·refine kX ?_
  obtain rfl := oi h1
  exact kZ hFn hFH hFD
def loc_numbered (x0 : St32) (x1 : Int) : Option (Bool) :=
 (bif (decide (x1 = 2)) then (Option.bind (bif (decide (x0.Exp_ > 0)) then (bif (decide (x0.Hash_ = 0)) then (bif (decide (x0.G1_ = 0)) then (some ()) else none) else none) else none) fun (s0 : Unit) => (some (decide (x0.MinInt_ = 1)))) else (Option.bind (bif (decide (x0.MinSig_ > 0)) then none else (some ())) fun (s1 : Unit) => (Option.bind (bif (decide (x0.Exp_ = 0)) then (bif (decide (x0.MinInt_ > 0)) then (some ()) else none) else none) fun (s2 : Unit) => (some true))))
theorem loc_numbered_ok {x0 : St32} {x1 : Int} {r : Bool} (h : loc_numbered x0 x1 = some r) : SC Tryz.prog 38 [.agg (encSt32 x0), iL x1] [] (.bool r) [] := by
 refine kFn (fn := Tryz.f38) (fun F hFn hFH hFD => ?_)
 unfold loc_numbered at h
 refine kSR ?_
 refine kC 2 [1,2,4] ?_
 refine kEN ?_
 refine kS ?_
 refine kSR ?_
 refine kC 2 [1,2,4,7] ?_
 refine kEN ?_
 refine kBJ 7 h (fun h0 => ?_) (fun h1 => ?_)
 ·refine kT ?_
  obtain ⟨s0, hy0, h2⟩ := bindS h0
  refine K.cutN (by kernel_rfl) (fun (s0 : Unit) => ([(1, iL x1), (2, .ptr 0 0), (4, .bool (decide (x0.MinInt_ = 1)))], [.box (encSt32 x0)])) s0 ?_ ?_
  ·refine kR ?_
   refine kC 4 [1,2,4,11] ?_
   refine cFR 11 hy0 (fun h3 => ?_)
   refine kC 5 [1,2,4,16] ?_
   refine cFR 16 h3 (fun h4 => ?_)
   refine kC 5 [1,2,4,21] ?_
   refine cFR 21 h4 (fun h5 => ?_)
   refine kC 5 [1,2,4] ?_
   refine kE ?_
   obtain rfl := oi h5
   exact kN [1, 2, 4]
  ·refine kX ?_
   refine PJ.passRet ?_
   obtain rfl := oi h2
   exact kZ hFn hFH hFD
 ·refine kF ?_
  refine kK ?_
  refine PJ.next ?_
  obtain ⟨s1, hy1, h6⟩ := bindS h1
  refine K.cutN (by kernel_rfl) (fun (s1 : Unit) => ([(2, .ptr 0 0), (4, .bool false), (5, .bool false)], [.box (encSt32 x0)])) s1 ?_ ?_
  ·refine kR ?_
   refine kC 4 [1,2,4,29] ?_
   refine cTR 29 hy1 (fun h7 => ?_)
   refine kC 8 [2,4,5] ?_
   refine kE ?_
   obtain rfl := oi h7
   exact kN [2, 4, 5]
  ·obtain ⟨s2, hy2, h8⟩ := bindS h6
   refine K.cutN (by kernel_rfl) (fun (s2 : Unit) => ([(4, .bool true)], [])) s2 ?_ ?_
   ·refine kR ?_
    refine kC 4 [2,4,5,40] ?_
    refine cFR 40 hy2 (fun h9 => ?_)
    refine kC 4 [4,5,40,44] ?_
    refine cFR 44 h9 (fun h10 => ?_)
    refine kC 4 [4] ?_
    refine kE ?_
    obtain rfl := oi h10
    refine kW (L2 := [(4, .bool true)]) (H2 := []) hFH hFD [] ?_
    exact kN [4]
   ·refine kX ?_
    obtain rfl := oi h8
    exact kZ hFn hFH hFD
def affix_Count (x0 : List St106) (x1 : Int) : Option (Int) :=
 (Option.bind (loopN (fun (s0 : Int × Int) => (bif (decide (s0.2 < (x0.length : Int))) then (Option.bind (bif inR s0.2 x0.length then (bif (decide (((nth x0 s0.2).Kind_) = x1)) then (some (IntKind.wrap .i64 (s0.1 + 1))) else (some s0.1)) else none) fun (s1 : Int) => (some (.inl (s1, (IntKind.wrap .i64 (s0.2 + 1)))))) else (some (.inr s0.1)))) big (0, 0)) fun (s2 : Int) => (some s2))
theorem affix_Count_ok {x0 : List St106} {x1 : Int} {r : Int} (h : affix_Count x0 x1 = some r) : SC Tryz.prog 79 [lsv encSt106 2 x0, iL x1] [] (iL r) [] := by
 refine kFn (fn := Tryz.f79) (fun F hFn hFH hFD => ?_)
 unfold affix_Count at h
 refine kSR ?_
 refine kC 1 [0,1,4] ?_
 refine kEN ?_
 refine kSR ?_
 refine kC 1 [0,1,4,5] ?_
 refine kEN ?_
 obtain ⟨s2, hy0, h0⟩ := bindS h
 refine K.cutN (by kernel_rfl) (fun (s2 : Int) => ([(4, iL 0), (5, iL s2)], [])) s2 ?_ ?_
 ·refine kSR ?_
  refine kC 3 [1,4,5,8,9,10] ?_
  refine kEN ?_
  refine kb 0 ?_
  refine kl (fun (s0 : Int × Int) => ([(1, iL x1), (4, iL 0), (5, iL s0.1), (8, lsv encSt106 2 x0), (9, iL (x0.length : Int)), (10, iL s0.2)], [])) hy0 [1, 4, 5, 8, 9, 10] (fun s0 x101 hs0 => ?_)
  refine kSR ?_
  refine kC 1 [1,4,5,8,9,10,11] ?_
  refine kEN ?_
  refine kS ?_
  refine kBJ 11 hs0 (fun h1 => ?_) (fun h2 => ?_)
  ·refine kT ?_
   refine kK ?_
   refine PJ.next ?_
   obtain ⟨s1, hy1, h3⟩ := bindS h1
   refine K.cutN (by kernel_rfl) (fun (s1 : Int) => ([(1, iL x1), (4, iL 0), (5, iL s1), (8, lsv encSt106 2 x0), (9, iL (x0.length : Int)), (10, iL s0.2)], [])) s1 ?_ ?_
   ·refine kb 1 ?_
    refine kSR ?_
    obtain ⟨hm, h4⟩ := asrt hy1
    refine kI 12 encSt106_len hm ?_
    refine kC 3 [1,4,5,7,8,9,10] ?_
    refine kEN ?_
    refine kSR ?_
    refine kC 4 [1,4,5,8,9,10,17] ?_
    refine kEN ?_
    refine kBJ 17 h4 (fun h5 => ?_) (fun h6 => ?_)
    ·refine kT ?_
     refine kR ?_
     refine kC 3 [1,4,5,8,9,10] ?_
     refine kE ?_
     refine PJ.blockNormal ?_
     obtain rfl := oi h5
     refine kW (L2 := [(1, iL x1), (4, iL 0), (5, iL (IntKind.wrap .i64 (s0.1 + 1))), (8, lsv encSt106 2 x0), (9, iL (x0.length : Int)), (10, iL s0.2)]) (H2 := []) hFH hFD [] ?_
     exact kN [1, 4, 5, 8, 9, 10]
    ·refine kF ?_
     refine kK ?_
     refine PJ.blockNormal ?_
     obtain rfl := oi h6
     refine kW (L2 := [(1, iL x1), (4, iL 0), (5, iL s0.1), (8, lsv encSt106 2 x0), (9, iL (x0.length : Int)), (10, iL s0.2)]) (H2 := []) hFH hFD [] ?_
     exact kN [1, 4, 5, 8, 9, 10]
   ·refine kR ?_
    refine kC 2 [1,4,5,8,9,10] ?_
    refine kE ?_
    obtain rfl := oi h3
    exact kLN [1, 4, 5, 8, 9, 10]
  ·refine kF ?_
   refine K.exit 0 (by kernel_rfl) ?_
   refine PJ.passExit ?_
   obtain rfl := oi h2
   refine PJ.loopOut (fun e => nomatch e) (fun he0 => ?_)
   have h7 := congrArg some he0
   refine PJ.blockOut ?_
   obtain rfl := oi h7
   exact kN [4, 5]
 ·refine kSR ?_
  refine kC 2 [4] ?_
  refine kEN ?_
  refine kX ?_
  obtain rfl := oi h0
  exact kZ hFn hFH hFD
def loc_pieced_1_s0 (x0 : Int) (x1 : List St106) (x2 : List St106) : Option (Int) :=
 (Option.bind (affix_Count x1 x0) fun y0 => (Option.bind (affix_Count x2 x0) fun y1 => (some (IntKind.wrap .i64 (y0 + y1)))))
theorem loc_pieced_1_s0_ok {x0 : Int} {x1 : List St106} {x2 : List St106} {r : Int} (h : loc_pieced_1_s0 x0 x1 x2 = some r) : SC Tryz.prog 78 [iL x0, .ptr 0 0, .ptr 1 0] [.box [lsv encSt106 2 x1], .box [lsv encSt106 2 x2]] (iL r) [.box [lsv encSt106 2 x1], .box [lsv encSt106 2 x2]] := by
 refine kFn (fn := Tryz.f78) (fun F hFn hFH hFD => ?_)
 unfold loc_pieced_1_s0 at h
 refine kSR ?_
 refine kC 1 [0,1,2,4] ?_
 refine kEN ?_
 refine kS ?_
 refine J.keep [0, 1, 2, 4] (L2 := [(0, iL x0), (1, .ptr 0 0), (2, .ptr 1 0), (4, iL 0)]) (by kernel_rfl) ?_
 refine K.draw (by kernel_rfl) (by kernel_rfl) (by kernel_rfl) (H2 := [.box [lsv encSt106 2 x1], .box [lsv encSt106 2 x2], .res, .res]) (by kernel_rfl) (n := 2) (by kernel_rfl) ?_
 refine kD 2 ?_
 obtain ⟨y0, hy0, h0⟩ := bindS h
 refine RJ.call0 (d := (some 7)) (f := 79) (args := [lsv encSt106 2 x1, iL x0]) (v := iL y0) (tr2 := [([0, 1], []), ([], []), ([], [4, 5])]) (by kernel_rfl) (by kernel_rfl) (.cons (Le.refl _) (.cons (Le.refl _) .nil)) (affix_Count_ok hy0) (by kernel_rfl) ?_
 refine kD 2 ?_
 obtain ⟨y1, hy1, h1⟩ := bindS h0
 refine RJ.call0 (d := (some 10)) (f := 79) (args := [lsv encSt106 2 x2, iL x0]) (v := iL y1) (tr2 := [([0, 1], []), ([], []), ([], [4, 5]), ([2, 3], []), ([], []), ([], [6, 7])]) (by kernel_rfl) (by kernel_rfl) (.cons (Le.refl _) (.cons (Le.refl _) .nil)) (affix_Count_ok hy1) (by kernel_rfl) ?_
 refine kD 2 ?_
 refine kEN ?_
 refine kX ?_
 obtain rfl := oi h1
 exact kV [0, 1] hFn hFH hFD (v1 := iL (IntKind.wrap .i64 (y0 + y1)))
def loc_pieced (x0 : List St106) (x1 : List St106) (x2 : Int) (x3 : Int) : Option (Bool) :=
 (Option.bind (bif (decide (x2 = 1)) then (some (1, 0)) else (bif (decide (x2 = 3)) then (some (0, 1)) else (some (0, 0)))) fun (s0 : Int × Int) => (Option.bind (Option.bind (loc_pieced_1_s0 3 x0 x1) fun y1 => (bif (decide (y1 = s0.1)) then (Option.bind (loc_pieced_1_s0 4 x0 x1) fun y2 => (bif (decide (y2 = s0.2)) then (Option.bind (loc_pieced_1_s0 2 x0 x1) fun y3 => (bif (decide (y3 = 0)) then (Option.bind (loc_pieced_1_s0 1 x0 x1) fun y0 => (some (decide (y0 ≤ x3)))) else (some false))) else (some false))) else (some false))) fun (s1 : Bool) => (some s1)))
theorem loc_pieced_ok {x0 : List St106} {x1 : List St106} {x2 : Int} {x3 : Int} {r : Bool} (h : loc_pieced x0 x1 x2 x3 = some r) : SC Tryz.prog 39 [lsv encSt106 2 x0, lsv encSt106 2 x1, iL x2, iL x3] [] (.bool r) [] := by
 refine kFn (fn := Tryz.f39) (fun F hFn hFH hFD => ?_)
 unfold loc_pieced at h
 refine kSR ?_
 refine kC 3 [2,3,4,5,8] ?_
 refine kEN ?_
 refine kSR ?_
 refine kC 2 [2,3,8,9] ?_
 refine kEN ?_
 refine kSR ?_
 refine kC 2 [2,3,8,9,10,11] ?_
 refine kEN ?_
 obtain ⟨s0, hy0, h0⟩ := bindS h
 refine K.cutN (by kernel_rfl) (fun (s0 : Int × Int) => ([(3, iL x3), (8, .bool false), (9, .fn (.func 78) [] [.ptr 0 0, .ptr 1 0]), (10, iL s0.1), (11, iL s0.2)], [.box [lsv encSt106 2 x0], .box [lsv encSt106 2 x1]])) s0 ?_ ?_
 ·refine kSR ?_
  refine kC 1 [3,8,9,10,11,13] ?_
  refine kEN ?_
  refine kb 0 ?_
  refine kSR ?_
  refine kC 2 [3,8,9,10,11,13,14] ?_
  refine kEN ?_
  refine kBJ 14 hy0 (fun h1 => ?_) (fun h2 => ?_)
  ·refine kT ?_
   refine kR ?_
   refine kC 1 [3,8,9,10,11] ?_
   refine kE ?_
   refine PJ.blockNormal ?_
   obtain rfl := oi h1
   exact kN [3, 8, 9, 10, 11]
  ·refine kF ?_
   refine kSR ?_
   refine kC 2 [3,8,9,10,11,16] ?_
   refine kEN ?_
   refine kBJ 16 h2 (fun h3 => ?_) (fun h4 => ?_)
   ·refine kT ?_
    refine kR ?_
    refine kC 1 [3,8,9,10,11] ?_
    refine kE ?_
    refine PJ.blockNormal ?_
    obtain rfl := oi h3
    exact kN [3, 8, 9, 10, 11]
   ·refine kF ?_
    refine kK ?_
    refine PJ.blockNormal ?_
    obtain rfl := oi h4
    exact kN [3, 8, 9, 10, 11]
 ·obtain ⟨s1, hy1, h5⟩ := bindS h0
  refine K.cutN (by kernel_rfl) (fun (s1 : Bool) => ([(8, .bool s1)], [])) s1 ?_ ?_
  ·refine kR ?_
   refine kC 1 [3,8,9,10,11,18] ?_
   obtain ⟨y1, hy2, h6⟩ := bindS hy1
   refine kCG (some 19) (args := [iL 3, .ptr 0 0, .ptr 1 0]) (v := iL y1) (H2 := [.box [lsv encSt106 2 x0], .box [lsv encSt106 2 x1]]) [0, 1] (loc_pieced_1_s0_ok hy2) ?_
   refine kC 3 [3,8,9,11,22] ?_
   refine kB 22 h6 (fun h7 => ?_) (fun h8 => ?_)
   ·refine kC 1 [3,8,9,11,22,23] ?_
    obtain ⟨y2, hy3, h9⟩ := bindS h7
    refine kCG (some 24) (args := [iL 4, .ptr 0 0, .ptr 1 0]) (v := iL y2) (H2 := [.box [lsv encSt106 2 x0], .box [lsv encSt106 2 x1]]) [0, 1] (loc_pieced_1_s0_ok hy3) ?_
    refine kC 4 [3,8,9,28] ?_
    refine kB 28 h9 (fun h10 => ?_) (fun h11 => ?_)
    ·refine kC 1 [3,8,9,28,29] ?_
     obtain ⟨y3, hy4, h12⟩ := bindS h10
     refine kCG (some 30) (args := [iL 2, .ptr 0 0, .ptr 1 0]) (v := iL y3) (H2 := [.box [lsv encSt106 2 x0], .box [lsv encSt106 2 x1]]) [0, 1] (loc_pieced_1_s0_ok hy4) ?_
     refine kC 3 [3,8,9,33] ?_
     refine kB 33 h12 (fun h13 => ?_) (fun h14 => ?_)
     ·refine kC 1 [3,8,33,34] ?_
      obtain ⟨y0, hy5, h15⟩ := bindS h13
      refine kCG (some 35) (args := [iL 1, .ptr 0 0, .ptr 1 0]) (v := iL y0) (H2 := [.box [lsv encSt106 2 x0], .box [lsv encSt106 2 x1]]) [0, 1] (loc_pieced_1_s0_ok hy5) ?_
      refine kC 4 [8] ?_
      refine kE ?_
      obtain rfl := oi h15
      refine kW (L2 := [(8, .bool (decide (y0 ≤ x3)))]) (H2 := []) hFH hFD [] ?_
      exact kN [8]
     ·refine kC 6 [8] ?_
      refine kE ?_
      obtain rfl := oi h14
      refine kW (L2 := [(8, .bool false)]) (H2 := []) hFH hFD [] ?_
      exact kN [8]
    ·refine kC 11 [8] ?_
     refine kE ?_
     obtain rfl := oi h11
     refine kW (L2 := [(8, .bool false)]) (H2 := []) hFH hFD [] ?_
     exact kN [8]
   ·refine kC 17 [8] ?_
    refine kE ?_
    obtain rfl := oi h8
    refine kW (L2 := [(8, .bool false)]) (H2 := []) hFH hFD [] ?_
    exact kN [8]
  ·refine kX ?_
   obtain rfl := oi h5
   exact kZ hFn hFH hFD
structure St63 where
 Pre_ : List Int
 Suf_ : List Int
 deriving Inhabited, DecidableEq
def encSt63 (x : St63) : List SV := [lsv (encI .i32) 1 x.Pre_, lsv (encI .i32) 1 x.Suf_]
theorem encSt63_len (x : St63) : (encSt63 x).length = 2 := rfl
structure St124 where
 a0_ : St63
 a1_ : St63
 a2_ : St63
 deriving Inhabited, DecidableEq
def encSt124 (x : St124) : List SV := [lsv (encI .i32) 1 x.a0_.Pre_, lsv (encI .i32) 1 x.a0_.Suf_, lsv (encI .i32) 1 x.a1_.Pre_, lsv (encI .i32) 1 x.a1_.Suf_, lsv (encI .i32) 1 x.a2_.Pre_, lsv (encI .i32) 1 x.a2_.Suf_]
theorem encSt124_len (x : St124) : (encSt124 x).length = 6 := rfl
def api_Tok__191 (x0 : List St106) : Option (List St106) :=
 (bif (Nat.beq x0.length 0) then agree (some ([] : List St106)) (bif room x0.length then (some x0) else none) else (bif room x0.length then (some x0) else none))
theorem api_Tok__191_ok_o {x0 : List St106} {r : List St106} (h : api_Tok__191 x0 = some r) : SC Tryz.prog 191 [lsv encSt106 2 x0] [] (.vc 0) [vecL encSt106 2 107 r] := by
 refine kFn (fn := Tryz.f191) (fun F hFn hFH hFD => ?_)
 unfold api_Tok__191 at h
 refine kSR ?_
 refine kC 1 [0,2] ?_
 refine kEN ?_
 refine kS ?_
 refine kSR ?_
 refine kC 1 [0,2,3] ?_
 refine RJ.isNil (d := 4) (n := x0.length) (eq := true) (by kernel_rfl) (fun b hb0 => ?_)
 cases b
 ·have h0 := agreeF h
  refine kEN ?_
  refine kF ?_
  refine kK ?_
  refine PJ.next ?_
  refine kSR ?_
  refine kC 2 [2,5,6] ?_
  obtain ⟨hm, h1⟩ := asrt h0
  refine RJ.rel (d := (some 7)) (ef' := ⟨.vc 0, [], [(0, .vec x0.length 2 107 (x0.flatMap encSt106))]⟩) (tr2 := []) (H2 := [vecL encSt106 2 107 x0]) (by kernel_rfl) hm (fun hc => rfl) (by kernel_rfl) ?_
  refine kC 1 [2] ?_
  refine kEN ?_
  refine kX ?_
  obtain rfl := oi h1
  exact kV [0] hFn hFH hFD (v1 := .vc 0)
 ·have h2 := agreeT (by rw [hb0 rfl]; rfl) h
  refine kEN ?_
  refine kT ?_
  refine kSR ?_
  refine kC 1 [0,2] ?_
  refine kEN ?_
  refine kX ?_
  refine PJ.passRet ?_
  obtain rfl := oi h2
  refine PJ.wk (Wk.viv 2 2 107 (by kernel_rfl)) ?_
  exact kV [0] hFn hFH hFD (v1 := .vc 0)
def affix_led (x0 : List St106) (x1 : List St106) : Option (List St106) :=
 (Option.bind (api_Tok__191 x1) fun y0 => (bif room (y0.length + x0.length) then (some (y0 ++ x0)) else none))
theorem affix_led_ok {x0 : List St106} {x1 : List St106} {r : List St106} (h : affix_led x0 x1 = some r) : SC Tryz.prog 171 [lsv encSt106 2 x0, lsv encSt106 2 x1] [] (lsv encSt106 2 r) [] := by
 refine kFn (fn := Tryz.f171) (fun F hFn hFH hFD => ?_)
 unfold affix_led at h
 refine kSR ?_
 refine kC 1 [0,1,4] ?_
 refine kEN ?_
 refine kSR ?_
 refine kC 1 [0,4,5] ?_
 obtain ⟨y0, hy0, h0⟩ := bindS h
 refine kCG (some 6) (args := [lsv encSt106 2 x1]) (v := .vc 0) (H2 := [vecL encSt106 2 107 y0]) [] (api_Tok__191_ok_o hy0) ?_
 refine kC 1 [4,6,7] ?_
 obtain ⟨hm, h1⟩ := asrt h0
 refine RJ.rel (d := (some 8)) (ef := ⟨.vc 1, [0], [(0, .gone), (1, .vec (y0.length + x0.length) 2 107 (y0.flatMap encSt106 ++ x0.flatMap encSt106))]⟩) (ef' := ⟨.vc 1, [0], [(0, .gone), (1, vecL encSt106 2 107 (y0 ++ x0))]⟩) (c := room (y0.length + x0.length)) (tr2 := []) (H2 := [.gone, vecL encSt106 2 107 (y0 ++ x0)]) (by kernel_rfl) hm (fun hc => N.app) (by kernel_rfl) ?_
 refine kC 1 [4] ?_
 refine kEN ?_
 refine kX ?_
 obtain rfl := oi h1
 refine PJ.wk (Wk.freeze 1 (n := (y0 ++ x0).length) (k := 2) (e := 107) (cs := (y0 ++ x0).flatMap encSt106) (by kernel_rfl)) ?_
 exact kZ hFn hFH hFD
def affix_Signed (x0 : St32) (x1 : Int) : Option ((List St106) × (List St106)) :=
 (bif (decide (x1 = 1)) then (bif x0.Neg_ then none else (Option.bind (affix_led x0.Pre_ ([(⟨1, 0⟩ : St106)] : List St106)) fun y0 => (Option.bind (affix_led x0.Suf_ ([] : List St106)) fun y1 => (some (y0, y1))))) else (bif (decide (x1 = 2)) then (Option.bind (Option.bind (bif x0.Neg_ then none else (some ())) fun (s0 : Unit) => (some ())) fun (s1 : Unit) => (Option.bind (affix_led x0.Pre_ ([(⟨2, 0⟩ : St106)] : List St106)) fun y2 => (Option.bind (affix_led x0.Suf_ ([] : List St106)) fun y3 => (some (y2, y3))))) else (Option.bind (affix_led x0.Pre_ ([] : List St106)) fun y4 => (Option.bind (affix_led x0.Suf_ ([] : List St106)) fun y5 => (some (y4, y5))))))
theorem affix_Signed_ok {x0 : St32} {x1 : Int} {r : (List St106) × (List St106)} (h : affix_Signed x0 x1 = some r) : SC Tryz.prog 148 [.agg (encSt32 x0), iL x1] [] (.tup [lsv encSt106 2 r.1, lsv encSt106 2 r.2]) [] := by
 refine kFn (fn := Tryz.f148) (fun F hFn hFH hFD => ?_)
 unfold affix_Signed at h
 refine kSR ?_
 refine kC 3 [1,2,4,5] ?_
 refine kEN ?_
 refine kS ?_
 refine kSR ?_
 refine kC 1 [2,4,5,6] ?_
 refine kEN ?_
 refine kb 0 ?_
 refine kSR ?_
 refine kC 2 [2,4,5,6,7] ?_
 refine kEN ?_
 refine kBJ 7 h (fun h0 => ?_) (fun h1 => ?_)
 ·refine kT ?_
  refine kS ?_
  refine kSR ?_
  refine kC 2 [2,4,5,10] ?_
  refine kEN ?_
  refine cT 10 h0 (fun h2 => ?_)
  refine kF ?_
  refine kK ?_
  refine PJ.next ?_
  refine kS ?_
  refine J.keep [2, 4, 5] (L2 := [(2, .ptr 0 0), (4, .nl), (5, .nl)]) (by kernel_rfl) ?_
  refine K.draw (by kernel_rfl) (by kernel_rfl) (by kernel_rfl) (H2 := [.box (encSt32 x0), .res, .res, .res]) (by kernel_rfl) (n := 1) (by kernel_rfl) ?_
  refine kD 3 ?_
  refine RJ.relZ (d := (some 20)) (ef := ⟨.lst ([(⟨1, 0⟩ : St106)] : List St106).length 2 (([(⟨1, 0⟩ : St106)] : List St106).flatMap encSt106), [], [(1, .vec ([(⟨1, 0⟩ : St106)] : List St106).length 2 107 (([(⟨1, 0⟩ : St106)] : List St106).flatMap encSt106)), (1, .gone)]⟩) (ef' := ⟨.lst ([(⟨1, 0⟩ : St106)] : List St106).length 2 (([(⟨1, 0⟩ : St106)] : List St106).flatMap encSt106), [], [(1, .vec ([(⟨1, 0⟩ : St106)] : List St106).length 2 107 (([(⟨1, 0⟩ : St106)] : List St106).flatMap encSt106)), (1, .gone)]⟩) (c := true) (tr2 := [([], []), ([0, 1], []), ([], []), ([], [2, 3, 2, 3, 2, 3])]) (H2 := [.box (encSt32 x0), .gone, .res, .res]) (by kernel_rfl) rfl (fun hc => rfl) (by kernel_rfl) ?_
  obtain ⟨y0, hy0, h3⟩ := bindS h2
  refine RJ.call0 (d := (some 21)) (f := 171) (args := [lsv encSt106 2 x0.Pre_, lsv encSt106 2 ([(⟨1, 0⟩ : St106)] : List St106)]) (v := lsv encSt106 2 y0) (tr2 := [([], []), ([0, 1], []), ([], []), ([], [2, 3, 2, 3, 2, 3]), ([], [4, 5])]) (by kernel_rfl) (by kernel_rfl) (.cons (Le.refl _) (.cons (Le.refl _) .nil)) (affix_led_ok hy0) (by kernel_rfl) ?_
  refine kD 2 ?_
  obtain ⟨y1, hy1, h4⟩ := bindS h3
  refine RJ.call0 (d := (some 24)) (f := 171) (args := [lsv encSt106 2 x0.Suf_, .nl]) (v := lsv encSt106 2 y1) (tr2 := [([], []), ([0, 1], []), ([], []), ([], [2, 3, 2, 3, 2, 3]), ([], [4, 5]), ([], []), ([0, 1], []), ([], [6, 7])]) (by kernel_rfl) (by kernel_rfl) (.cons (Le.refl _) (.cons (Le.nl _) .nil)) (affix_led_ok hy1) (by kernel_rfl) ?_
  refine kD 2 ?_
  refine kEN ?_
  refine kX ?_
  refine PJ.blockRet ?_
  refine PJ.passRet ?_
  obtain rfl := oi h4
  exact kZ hFn hFH hFD
 ·refine kF ?_
  refine kSR ?_
  refine kC 2 [2,4,5,25] ?_
  refine kEN ?_
  refine kBJ 25 h1 (fun h5 => ?_) (fun h6 => ?_)
  ·refine kT ?_
   obtain ⟨s1, hy2, h7⟩ := bindS h5
   refine K.cutN (by kernel_rfl) (fun (s1 : Unit) => ([(2, .ptr 0 0), (4, .nl), (5, .nl)], [.box (encSt32 x0)])) s1 ?_ ?_
   ·obtain ⟨s0, hy3, h8⟩ := bindS hy2
    refine K.cutN (by kernel_rfl) (fun (s0 : Unit) => ([(2, .ptr 0 0), (4, .nl), (5, .nl), (38, .bool false)], [.box (encSt32 x0)])) s0 ?_ ?_
    ·refine J.keep [2, 4, 5] (L2 := [(2, .ptr 0 0), (4, .nl), (5, .nl)]) (by kernel_rfl) ?_
     refine K.draw (by kernel_rfl) (by kernel_rfl) (by kernel_rfl) (H2 := [.box (encSt32 x0), .res, .res]) (by kernel_rfl) (n := 1) (by kernel_rfl) ?_
     refine kD 3 ?_
     refine cTR 29 hy3 (fun h9 => ?_)
     refine kD 9 ?_
     refine kE ?_
     obtain rfl := oi h9
     refine kW (L2 := [(2, .ptr 0 0), (4, .nl), (5, .nl), (38, .bool false)]) (H2 := [.box (encSt32 x0)]) hFH hFD [0] ?_
     exact kN [2, 4, 5, 38]
    ·refine kF ?_
     refine kK ?_
     obtain rfl := oi h8
     exact kN [2, 4, 5]
   ·refine kS ?_
    refine J.keep [2, 4, 5] (L2 := [(2, .ptr 0 0), (4, .nl), (5, .nl)]) (by kernel_rfl) ?_
    refine K.draw (by kernel_rfl) (by kernel_rfl) (by kernel_rfl) (H2 := [.box (encSt32 x0), .res, .res, .res]) (by kernel_rfl) (n := 1) (by kernel_rfl) ?_
    refine kD 3 ?_
    refine RJ.relZ (d := (some 48)) (ef := ⟨.lst ([(⟨2, 0⟩ : St106)] : List St106).length 2 (([(⟨2, 0⟩ : St106)] : List St106).flatMap encSt106), [], [(1, .vec ([(⟨2, 0⟩ : St106)] : List St106).length 2 107 (([(⟨2, 0⟩ : St106)] : List St106).flatMap encSt106)), (1, .gone)]⟩) (ef' := ⟨.lst ([(⟨2, 0⟩ : St106)] : List St106).length 2 (([(⟨2, 0⟩ : St106)] : List St106).flatMap encSt106), [], [(1, .vec ([(⟨2, 0⟩ : St106)] : List St106).length 2 107 (([(⟨2, 0⟩ : St106)] : List St106).flatMap encSt106)), (1, .gone)]⟩) (c := true) (tr2 := [([], []), ([0, 1], []), ([], []), ([], [2, 3, 2, 3, 2, 3])]) (H2 := [.box (encSt32 x0), .gone, .res, .res]) (by kernel_rfl) rfl (fun hc => rfl) (by kernel_rfl) ?_
    obtain ⟨y2, hy4, h10⟩ := bindS h7
    refine RJ.call0 (d := (some 49)) (f := 171) (args := [lsv encSt106 2 x0.Pre_, lsv encSt106 2 ([(⟨2, 0⟩ : St106)] : List St106)]) (v := lsv encSt106 2 y2) (tr2 := [([], []), ([0, 1], []), ([], []), ([], [2, 3, 2, 3, 2, 3]), ([], [4, 5])]) (by kernel_rfl) (by kernel_rfl) (.cons (Le.refl _) (.cons (Le.refl _) .nil)) (affix_led_ok hy4) (by kernel_rfl) ?_
    refine kD 2 ?_
    obtain ⟨y3, hy5, h11⟩ := bindS h10
    refine RJ.call0 (d := (some 52)) (f := 171) (args := [lsv encSt106 2 x0.Suf_, .nl]) (v := lsv encSt106 2 y3) (tr2 := [([], []), ([0, 1], []), ([], []), ([], [2, 3, 2, 3, 2, 3]), ([], [4, 5]), ([], []), ([0, 1], []), ([], [6, 7])]) (by kernel_rfl) (by kernel_rfl) (.cons (Le.refl _) (.cons (Le.nl _) .nil)) (affix_led_ok hy5) (by kernel_rfl) ?_
    refine kD 2 ?_
    refine kEN ?_
    refine kX ?_
    refine PJ.blockRet ?_
    refine PJ.passRet ?_
    obtain rfl := oi h11
    exact kZ hFn hFH hFD
  ·refine kF ?_
   refine kK ?_
   refine PJ.blockNormal ?_
   refine PJ.next ?_
   refine kS ?_
   refine J.keep [2, 4, 5] (L2 := [(2, .ptr 0 0), (4, .nl), (5, .nl)]) (by kernel_rfl) ?_
   refine K.draw (by kernel_rfl) (by kernel_rfl) (by kernel_rfl) (H2 := [.box (encSt32 x0), .res, .res]) (by kernel_rfl) (n := 1) (by kernel_rfl) ?_
   refine kD 2 ?_
   obtain ⟨y4, hy6, h12⟩ := bindS h6
   refine RJ.call0 (d := (some 55)) (f := 171) (args := [lsv encSt106 2 x0.Pre_, .nl]) (v := lsv encSt106 2 y4) (tr2 := [([], []), ([0, 1], []), ([], [2, 3])]) (by kernel_rfl) (by kernel_rfl) (.cons (Le.refl _) (.cons (Le.nl _) .nil)) (affix_led_ok hy6) (by kernel_rfl) ?_
   refine kD 2 ?_
   obtain ⟨y5, hy7, h13⟩ := bindS h12
   refine RJ.call0 (d := (some 58)) (f := 171) (args := [lsv encSt106 2 x0.Suf_, .nl]) (v := lsv encSt106 2 y5) (tr2 := [([], []), ([0, 1], []), ([], [2, 3]), ([], []), ([0, 1], []), ([], [4, 5])]) (by kernel_rfl) (by kernel_rfl) (.cons (Le.refl _) (.cons (Le.nl _) .nil)) (affix_led_ok hy7) (by kernel_rfl) ?_
   refine kD 2 ?_
   refine kEN ?_
   refine kX ?_
   obtain rfl := oi h13
   exact kZ hFn hFH hFD
def affix_resolved_s0 (x0 : St22) (x1 : List Int) : Option (Unit) :=
 (some ())
theorem affix_resolved_s0_ok {x0 : St22} {x1 : List Int} {r : Unit} (h : affix_resolved_s0 x0 x1 = some r) : SC Tryz.prog 173 [.agg (encSt22 x0), lR x1] [] (.mp 0) [.map [(iL 1, .vc 1), (iL 2, .vc 2), (iL 3, .vc 3), (iL 4, lR x1)], vecL (encI .i32) 1 21 ([x0.Minus_] : List Int), vecL (encI .i32) 1 21 ([x0.Plus_] : List Int), vecL (encI .i32) 1 21 ([x0.Percent_] : List Int)] := by
 refine kFn (fn := Tryz.f173) (fun F hFn hFH hFD => ?_)
 unfold affix_resolved_s0 at h
 refine kSR ?_
 refine kC 2 [1,2] ?_
 refine kEN ?_
 refine kSR ?_
 refine kC 17 [4] ?_
 refine kEN ?_
 refine kX ?_
 obtain rfl := oi h
 exact kV [1, 2, 3, 4] hFn hFH hFD (v1 := .mp 1)
def affix_Resolve (x0 : List St106) (x1 : St22) (x2 : List Int) : Option (List Int) :=
 (Option.bind (affix_resolved_s0 x1 x2) fun y0 => (Option.bind (loopN (fun (s0 : Int × (List Int)) => (bif (decide (s0.1 < (x0.length : Int))) then (Option.bind (bif inR s0.1 x0.length then (bif (decide (((nth x0 s0.1).Kind_) = 0)) then (bif room (s0.2.length + ([(nth x0 s0.1).R_] : List Int).length) then (some ((s0.2 ++ ([(nth x0 s0.1).R_] : List Int)))) else none) else (bif (decide (((nth x0 s0.1).Kind_) = 1)) then (bif room (s0.2.length + ([x1.Minus_] : List Int).length) then (some (s0.2 ++ ([x1.Minus_] : List Int))) else none) else (bif (decide (((nth x0 s0.1).Kind_) = 2)) then (bif room (s0.2.length + ([x1.Plus_] : List Int).length) then (some (s0.2 ++ ([x1.Plus_] : List Int))) else none) else (bif (decide (((nth x0 s0.1).Kind_) = 3)) then (bif room (s0.2.length + ([x1.Percent_] : List Int).length) then (some (s0.2 ++ ([x1.Percent_] : List Int))) else none) else (bif (decide (((nth x0 s0.1).Kind_) = 4)) then (bif room (s0.2.length + x2.length) then (some (s0.2 ++ x2)) else none) else (bif room (s0.2.length + ([] : List Int).length) then (some (s0.2 ++ ([] : List Int))) else none)))))) else none) fun (s2 : (List Int)) => (some (.inl ((IntKind.wrap .i64 (s0.1 + 1)), s2)))) else (some (.inr s0.2)))) big (0, ([] : List Int))) fun (s1 : (List Int)) => (some s1)))
theorem affix_Resolve_ok {x0 : List St106} {x1 : St22} {x2 : List Int} {r : List Int} (h : affix_Resolve x0 x1 x2 = some r) : SC Tryz.prog 149 [lsv encSt106 2 x0, .agg (encSt22 x1), lR x2] [] (lR r) [] := by
 refine kFn (fn := Tryz.f149) (fun F hFn hFH hFD => ?_)
 unfold affix_Resolve at h
 refine kSR ?_
 refine kC 2 [0,2,4,6] ?_
 refine kEN ?_
 refine kSR ?_
 refine kC 2 [0,6,11,12] ?_
 obtain ⟨y0, hy0, h4⟩ := bindS h
 refine kCG (some 13) (args := [.agg (encSt22 x1), lR x2]) (v := .mp 1) (H2 := [.box (encSt22 x1), .map [(iL 1, .vc 2), (iL 2, .vc 3), (iL 3, .vc 4), (iL 4, lR x2)], vecL (encI .i32) 1 21 ([x1.Minus_] : List Int), vecL (encI .i32) 1 21 ([x1.Plus_] : List Int), vecL (encI .i32) 1 21 ([x1.Percent_] : List Int)]) [] (affix_resolved_s0_ok hy0) ?_
 refine kC 1 [0,6,7] ?_
 refine kEN ?_
 refine kSR ?_
 refine kC 1 [0,6,7,8] ?_
 refine kEN ?_
 obtain ⟨s1, hy1, h5⟩ := bindS h4
 refine K.cutN (by kernel_rfl) (fun (s1 : (List Int)) => ([(6, .nl), (8, .vc 0)], [vecL (encI .i32) 1 21 s1])) s1 ?_ ?_
 ·refine kSR ?_
  refine kC 3 [6,7,8,14,15,16] ?_
  refine kEN ?_
  refine kb 0 ?_
  refine J.wk (Wk.viv 8 1 21 (by kernel_rfl)) ?_
  refine J.wk (Wk.sel (L2 := [(6, .nl), (7, .mp 0), (8, .vc 4), (14, lsv encSt106 2 x0), (15, iL (x0.length : Int)), (16, iL 0)]) (H2 := [.map [(iL 1, .vc 1), (iL 2, .vc 2), (iL 3, .vc 3), (iL 4, lR x2)], vecL (encI .i32) 1 21 ([x1.Minus_] : List Int), vecL (encI .i32) 1 21 ([x1.Plus_] : List Int), vecL (encI .i32) 1 21 ([x1.Percent_] : List Int), vecL (encI .i32) 1 21 ([] : List Int)]) 0 (by rw [hFH]; rfl) hFD [1, 2, 3, 4, 5] (by kernel_rfl) (by kernel_rfl) (by decide) (by kernel_rfl) (by kernel_rfl) (by kernel_rfl) (by kernel_rfl)) ?_
  refine kl (fun (s0 : Int × (List Int)) => ([(6, .nl), (7, .mp 0), (8, .vc 4), (14, lsv encSt106 2 x0), (15, iL (x0.length : Int)), (16, iL s0.1)], [.map [(iL 1, .vc 1), (iL 2, .vc 2), (iL 3, .vc 3), (iL 4, lR x2)], vecL (encI .i32) 1 21 ([x1.Minus_] : List Int), vecL (encI .i32) 1 21 ([x1.Plus_] : List Int), vecL (encI .i32) 1 21 ([x1.Percent_] : List Int), vecL (encI .i32) 1 21 s0.2])) hy1 [6, 7, 8, 14, 15, 16] (fun s0 x324 hs0 => ?_)
  refine kSR ?_
  refine kC 1 [6,7,8,14,15,16,17] ?_
  refine kEN ?_
  refine kS ?_
  refine kBJ 17 hs0 (fun h6 => ?_) (fun h7 => ?_)
  ·refine kT ?_
   refine kK ?_
   refine PJ.next ?_
   obtain ⟨s2, hy2, h8⟩ := bindS h6
   refine K.cutN (by kernel_rfl) (fun (s2 : (List Int)) => ([(6, .nl), (7, .mp 0), (8, .vc 4), (14, lsv encSt106 2 x0), (15, iL (x0.length : Int)), (16, iL s0.1)], [.map [(iL 1, .vc 1), (iL 2, .vc 2), (iL 3, .vc 3), (iL 4, lR x2)], vecL (encI .i32) 1 21 ([x1.Minus_] : List Int), vecL (encI .i32) 1 21 ([x1.Plus_] : List Int), vecL (encI .i32) 1 21 ([x1.Percent_] : List Int), vecL (encI .i32) 1 21 s2])) s2 ?_ ?_
   ·refine kb 1 ?_
    refine kSR ?_
    obtain ⟨hm, h9⟩ := asrt hy2
    refine kI 18 encSt106_len hm ?_
    refine kC 3 [6,7,8,10,14,15,16] ?_
    refine kEN ?_
    refine kSR ?_
    refine kC 3 [6,7,8,10,14,15,16,22] ?_
    refine kEN ?_
    refine kBJ 22 h9 (fun h10 => ?_) (fun h0 => ?_)
    ·refine kT ?_
     refine kR ?_
     refine kC 4 [6,7,8,14,15,16,23,26] ?_
     obtain ⟨hm, h11⟩ := asrt h10
     refine RJ.rel (d := (some 27)) (ef := ⟨.vc 7, [4, 6], [(4, .gone), (7, .vec (s0.2.length + ([(nth x0 s0.1).R_] : List Int).length) 1 21 (s0.2.flatMap (encI .i32) ++ ([(nth x0 s0.1).R_] : List Int).flatMap (encI .i32)))]⟩) (ef' := ⟨.vc 7, [4, 6], [(4, .gone), (7, vecL (encI .i32) 1 21 (s0.2 ++ ([(nth x0 s0.1).R_] : List Int)))]⟩) (c := room (s0.2.length + ([(nth x0 s0.1).R_] : List Int).length)) (tr2 := []) (H2 := [.map [(iL 1, .vc 1), (iL 2, .vc 2), (iL 3, .vc 3), (iL 4, lR x2)], vecL (encI .i32) 1 21 ([x1.Minus_] : List Int), vecL (encI .i32) 1 21 ([x1.Plus_] : List Int), vecL (encI .i32) 1 21 ([x1.Percent_] : List Int), .gone, .box [iL ((nth x0 s0.1).Kind_), iM ((nth x0 s0.1).R_)], vecL (encI .i32) 1 21 ([(nth x0 s0.1).R_] : List Int), vecL (encI .i32) 1 21 ((s0.2 ++ ([(nth x0 s0.1).R_] : List Int)))]) (by kernel_rfl) hm (fun hc => N.app) (by kernel_rfl) ?_
     refine kC 1 [6,7,8,14,15,16] ?_
     refine kE ?_
     refine PJ.blockNormal ?_
     obtain rfl := oi h11
     refine kW (L2 := [(6, .nl), (7, .mp 0), (8, .vc 4), (14, lsv encSt106 2 x0), (15, iL (x0.length : Int)), (16, iL s0.1)]) (H2 := [.map [(iL 1, .vc 1), (iL 2, .vc 2), (iL 3, .vc 3), (iL 4, lR x2)], vecL (encI .i32) 1 21 ([x1.Minus_] : List Int), vecL (encI .i32) 1 21 ([x1.Plus_] : List Int), vecL (encI .i32) 1 21 ([x1.Percent_] : List Int), vecL (encI .i32) 1 21 ((s0.2 ++ ([(nth x0 s0.1).R_] : List Int)))]) hFH hFD [0, 1, 2, 3, 7] ?_
     exact kN [6, 7, 8, 14, 15, 16]
    ·refine kF ?_
     refine kR ?_
     refine kC 4 [6,7,8,14,15,16,28,29,31] ?_
     cases hb0 : (decide (((nth x0 s0.1).Kind_) = 1))
     ·have h1 := condF hb0 h0
      have hn367 := of_decide_eq_false hb0
      cases hb1 : (decide (((nth x0 s0.1).Kind_) = 2))
      ·have h2 := condF hb1 h1
       have hn372 := of_decide_eq_false hb1
       cases hb2 : (decide (((nth x0 s0.1).Kind_) = 3))
       ·have h3 := condF hb2 h2
        have hn377 := of_decide_eq_false hb2
        cases hb3 : (decide (((nth x0 s0.1).Kind_) = 4))
        ·have h12 := condF hb3 h3
         have hn382 := of_decide_eq_false hb3
         refine RJ.look (none) (d := some 32) (ef := ⟨.nl, [0], []⟩) (c := missC (iL ((nth x0 s0.1).Kind_)) [(iL 1, .vc 1), (iL 2, .vc 2), (iL 3, .vc 3), (iL 4, lR x2)]) (tr2 := []) (by kernel_rfl) (by simp [hitC, missC, sameB, sameE, hn367, hn372, hn377, hn382]) ?_
         obtain ⟨hm, h13⟩ := asrt h12
         refine RJ.rel (d := (some 33)) (ef := ⟨.vc 6, [4], [(4, .gone), (6, .vec (s0.2.length + ([] : List Int).length) 1 21 (s0.2.flatMap (encI .i32) ++ ([] : List Int).flatMap (encI .i32)))]⟩) (ef' := ⟨.vc 6, [4], [(4, .gone), (6, vecL (encI .i32) 1 21 (s0.2 ++ ([] : List Int)))]⟩) (c := room (s0.2.length + ([] : List Int).length)) (tr2 := []) (H2 := [.map [(iL 1, .vc 1), (iL 2, .vc 2), (iL 3, .vc 3), (iL 4, lR x2)], vecL (encI .i32) 1 21 ([x1.Minus_] : List Int), vecL (encI .i32) 1 21 ([x1.Plus_] : List Int), vecL (encI .i32) 1 21 ([x1.Percent_] : List Int), .gone, .box [iL ((nth x0 s0.1).Kind_), iM ((nth x0 s0.1).R_)], vecL (encI .i32) 1 21 (s0.2 ++ ([] : List Int))]) (by kernel_rfl) hm (fun hc => N.app) (by kernel_rfl) ?_
         refine kC 1 [6,7,8,14,15,16] ?_
         refine kE ?_
         refine PJ.blockNormal ?_
         obtain rfl := oi h13
         refine kW (L2 := [(6, .nl), (7, .mp 0), (8, .vc 4), (14, lsv encSt106 2 x0), (15, iL (x0.length : Int)), (16, iL s0.1)]) (H2 := [.map [(iL 1, .vc 1), (iL 2, .vc 2), (iL 3, .vc 3), (iL 4, lR x2)], vecL (encI .i32) 1 21 ([x1.Minus_] : List Int), vecL (encI .i32) 1 21 ([x1.Plus_] : List Int), vecL (encI .i32) 1 21 ([x1.Percent_] : List Int), vecL (encI .i32) 1 21 (s0.2 ++ ([] : List Int))]) hFH hFD [0, 1, 2, 3, 6] ?_
         exact kN [6, 7, 8, 14, 15, 16]
        ·have h14 := condT hb3 h3
         have hn382 := of_decide_eq_true hb3
         refine RJ.look (some 3) (d := some 32) (ef := ⟨lR x2, [0], []⟩) (c := hitC (iL ((nth x0 s0.1).Kind_)) [(iL 1, .vc 1), (iL 2, .vc 2), (iL 3, .vc 3), (iL 4, lR x2)] 3) (tr2 := []) (by kernel_rfl) (by simp [hitC, missC, sameB, sameE, hn367, hn372, hn377, hn382]) ?_
         obtain ⟨hm, h15⟩ := asrt h14
         refine RJ.rel (d := (some 33)) (ef := ⟨.vc 6, [4], [(4, .gone), (6, .vec (s0.2.length + x2.length) 1 21 (s0.2.flatMap (encI .i32) ++ x2.flatMap (encI .i32)))]⟩) (ef' := ⟨.vc 6, [4], [(4, .gone), (6, vecL (encI .i32) 1 21 (s0.2 ++ x2))]⟩) (c := room (s0.2.length + x2.length)) (tr2 := []) (H2 := [.map [(iL 1, .vc 1), (iL 2, .vc 2), (iL 3, .vc 3), (iL 4, lR x2)], vecL (encI .i32) 1 21 ([x1.Minus_] : List Int), vecL (encI .i32) 1 21 ([x1.Plus_] : List Int), vecL (encI .i32) 1 21 ([x1.Percent_] : List Int), .gone, .box [iL ((nth x0 s0.1).Kind_), iM ((nth x0 s0.1).R_)], vecL (encI .i32) 1 21 (s0.2 ++ x2)]) (by kernel_rfl) hm (fun hc => N.app) (by kernel_rfl) ?_
         refine kC 1 [6,7,8,14,15,16] ?_
         refine kE ?_
         refine PJ.blockNormal ?_
         obtain rfl := oi h15
         refine kW (L2 := [(6, .nl), (7, .mp 0), (8, .vc 4), (14, lsv encSt106 2 x0), (15, iL (x0.length : Int)), (16, iL s0.1)]) (H2 := [.map [(iL 1, .vc 1), (iL 2, .vc 2), (iL 3, .vc 3), (iL 4, lR x2)], vecL (encI .i32) 1 21 ([x1.Minus_] : List Int), vecL (encI .i32) 1 21 ([x1.Plus_] : List Int), vecL (encI .i32) 1 21 ([x1.Percent_] : List Int), vecL (encI .i32) 1 21 (s0.2 ++ x2)]) hFH hFD [0, 1, 2, 3, 6] ?_
         exact kN [6, 7, 8, 14, 15, 16]
       ·have h16 := condT hb2 h2
        have hn377 := of_decide_eq_true hb2
        refine RJ.look (some 2) (d := some 32) (ef := ⟨.vc 3, [0], []⟩) (c := hitC (iL ((nth x0 s0.1).Kind_)) [(iL 1, .vc 1), (iL 2, .vc 2), (iL 3, .vc 3), (iL 4, lR x2)] 2) (tr2 := []) (by kernel_rfl) (by simp [hitC, missC, sameB, sameE, hn367, hn372, hn377]) ?_
        obtain ⟨hm, h17⟩ := asrt h16
        refine RJ.rel (d := (some 33)) (ef := ⟨.vc 6, [4, 3], [(4, .gone), (6, .vec (s0.2.length + ([x1.Percent_] : List Int).length) 1 21 (s0.2.flatMap (encI .i32) ++ ([x1.Percent_] : List Int).flatMap (encI .i32)))]⟩) (ef' := ⟨.vc 6, [4, 3], [(4, .gone), (6, vecL (encI .i32) 1 21 (s0.2 ++ ([x1.Percent_] : List Int)))]⟩) (c := room (s0.2.length + ([x1.Percent_] : List Int).length)) (tr2 := []) (H2 := [.map [(iL 1, .vc 1), (iL 2, .vc 2), (iL 3, .vc 3), (iL 4, lR x2)], vecL (encI .i32) 1 21 ([x1.Minus_] : List Int), vecL (encI .i32) 1 21 ([x1.Plus_] : List Int), vecL (encI .i32) 1 21 ([x1.Percent_] : List Int), .gone, .box [iL ((nth x0 s0.1).Kind_), iM ((nth x0 s0.1).R_)], vecL (encI .i32) 1 21 (s0.2 ++ ([x1.Percent_] : List Int))]) (by kernel_rfl) hm (fun hc => N.app) (by kernel_rfl) ?_
        refine kC 1 [6,7,8,14,15,16] ?_
        refine kE ?_
        refine PJ.blockNormal ?_
        obtain rfl := oi h17
        refine kW (L2 := [(6, .nl), (7, .mp 0), (8, .vc 4), (14, lsv encSt106 2 x0), (15, iL (x0.length : Int)), (16, iL s0.1)]) (H2 := [.map [(iL 1, .vc 1), (iL 2, .vc 2), (iL 3, .vc 3), (iL 4, lR x2)], vecL (encI .i32) 1 21 ([x1.Minus_] : List Int), vecL (encI .i32) 1 21 ([x1.Plus_] : List Int), vecL (encI .i32) 1 21 ([x1.Percent_] : List Int), vecL (encI .i32) 1 21 (s0.2 ++ ([x1.Percent_] : List Int))]) hFH hFD [0, 1, 2, 3, 6] ?_
        exact kN [6, 7, 8, 14, 15, 16]
      ·have h18 := condT hb1 h1
       have hn372 := of_decide_eq_true hb1
       refine RJ.look (some 1) (d := some 32) (ef := ⟨.vc 2, [0], []⟩) (c := hitC (iL ((nth x0 s0.1).Kind_)) [(iL 1, .vc 1), (iL 2, .vc 2), (iL 3, .vc 3), (iL 4, lR x2)] 1) (tr2 := []) (by kernel_rfl) (by simp [hitC, missC, sameB, sameE, hn367, hn372]) ?_
       obtain ⟨hm, h19⟩ := asrt h18
       refine RJ.rel (d := (some 33)) (ef := ⟨.vc 6, [4, 2], [(4, .gone), (6, .vec (s0.2.length + ([x1.Plus_] : List Int).length) 1 21 (s0.2.flatMap (encI .i32) ++ ([x1.Plus_] : List Int).flatMap (encI .i32)))]⟩) (ef' := ⟨.vc 6, [4, 2], [(4, .gone), (6, vecL (encI .i32) 1 21 (s0.2 ++ ([x1.Plus_] : List Int)))]⟩) (c := room (s0.2.length + ([x1.Plus_] : List Int).length)) (tr2 := []) (H2 := [.map [(iL 1, .vc 1), (iL 2, .vc 2), (iL 3, .vc 3), (iL 4, lR x2)], vecL (encI .i32) 1 21 ([x1.Minus_] : List Int), vecL (encI .i32) 1 21 ([x1.Plus_] : List Int), vecL (encI .i32) 1 21 ([x1.Percent_] : List Int), .gone, .box [iL ((nth x0 s0.1).Kind_), iM ((nth x0 s0.1).R_)], vecL (encI .i32) 1 21 (s0.2 ++ ([x1.Plus_] : List Int))]) (by kernel_rfl) hm (fun hc => N.app) (by kernel_rfl) ?_
       refine kC 1 [6,7,8,14,15,16] ?_
       refine kE ?_
       refine PJ.blockNormal ?_
       obtain rfl := oi h19
       refine kW (L2 := [(6, .nl), (7, .mp 0), (8, .vc 4), (14, lsv encSt106 2 x0), (15, iL (x0.length : Int)), (16, iL s0.1)]) (H2 := [.map [(iL 1, .vc 1), (iL 2, .vc 2), (iL 3, .vc 3), (iL 4, lR x2)], vecL (encI .i32) 1 21 ([x1.Minus_] : List Int), vecL (encI .i32) 1 21 ([x1.Plus_] : List Int), vecL (encI .i32) 1 21 ([x1.Percent_] : List Int), vecL (encI .i32) 1 21 (s0.2 ++ ([x1.Plus_] : List Int))]) hFH hFD [0, 1, 2, 3, 6] ?_
       exact kN [6, 7, 8, 14, 15, 16]
     ·have h20 := condT hb0 h0
      have hn367 := of_decide_eq_true hb0
      refine RJ.look (some 0) (d := some 32) (ef := ⟨.vc 1, [0], []⟩) (c := hitC (iL ((nth x0 s0.1).Kind_)) [(iL 1, .vc 1), (iL 2, .vc 2), (iL 3, .vc 3), (iL 4, lR x2)] 0) (tr2 := []) (by kernel_rfl) (by simp [hitC, missC, sameB, sameE, hn367]) ?_
      obtain ⟨hm, h21⟩ := asrt h20
      refine RJ.rel (d := (some 33)) (ef := ⟨.vc 6, [4, 1], [(4, .gone), (6, .vec (s0.2.length + ([x1.Minus_] : List Int).length) 1 21 (s0.2.flatMap (encI .i32) ++ ([x1.Minus_] : List Int).flatMap (encI .i32)))]⟩) (ef' := ⟨.vc 6, [4, 1], [(4, .gone), (6, vecL (encI .i32) 1 21 (s0.2 ++ ([x1.Minus_] : List Int)))]⟩) (c := room (s0.2.length + ([x1.Minus_] : List Int).length)) (tr2 := []) (H2 := [.map [(iL 1, .vc 1), (iL 2, .vc 2), (iL 3, .vc 3), (iL 4, lR x2)], vecL (encI .i32) 1 21 ([x1.Minus_] : List Int), vecL (encI .i32) 1 21 ([x1.Plus_] : List Int), vecL (encI .i32) 1 21 ([x1.Percent_] : List Int), .gone, .box [iL ((nth x0 s0.1).Kind_), iM ((nth x0 s0.1).R_)], vecL (encI .i32) 1 21 (s0.2 ++ ([x1.Minus_] : List Int))]) (by kernel_rfl) hm (fun hc => N.app) (by kernel_rfl) ?_
      refine kC 1 [6,7,8,14,15,16] ?_
      refine kE ?_
      refine PJ.blockNormal ?_
      obtain rfl := oi h21
      refine kW (L2 := [(6, .nl), (7, .mp 0), (8, .vc 4), (14, lsv encSt106 2 x0), (15, iL (x0.length : Int)), (16, iL s0.1)]) (H2 := [.map [(iL 1, .vc 1), (iL 2, .vc 2), (iL 3, .vc 3), (iL 4, lR x2)], vecL (encI .i32) 1 21 ([x1.Minus_] : List Int), vecL (encI .i32) 1 21 ([x1.Plus_] : List Int), vecL (encI .i32) 1 21 ([x1.Percent_] : List Int), vecL (encI .i32) 1 21 (s0.2 ++ ([x1.Minus_] : List Int))]) hFH hFD [0, 1, 2, 3, 6] ?_
      exact kN [6, 7, 8, 14, 15, 16]
   ·refine kR ?_
    refine kC 2 [6,7,8,14,15,16] ?_
    refine kE ?_
    obtain rfl := oi h8
    exact kLN [6, 7, 8, 14, 15, 16]
  ·refine kF ?_
   refine K.exit 0 (by kernel_rfl) ?_
   refine PJ.passExit ?_
   obtain rfl := oi h7
   refine PJ.loopOut (fun e => nomatch e) (fun he0 => ?_)
   have h22 := congrArg some he0
   refine PJ.blockOut ?_
   obtain rfl := oi h22
   refine kW (L2 := [(6, .nl), (8, .vc 0)]) (H2 := [vecL (encI .i32) 1 21 s0.2]) hFH hFD [4] ?_
   exact kN [6, 8]
 ·refine kSR ?_
  refine kC 2 [6] ?_
  refine kEN ?_
  refine kX ?_
  obtain rfl := oi h5
  refine PJ.wk (Wk.freeze 0 (n := s1.length) (k := 1) (e := 21) (cs := s1.flatMap (encI .i32)) (by kernel_rfl)) ?_
  exact kZ hFn hFH hFD
def affix_Of (x0 : St32) (x1 : St22) (x2 : Int) (x3 : List Int) : Option (St63) :=
 (Option.bind (affix_Signed x0 x2) fun y0 => (Option.bind (affix_Resolve y0.1 x1 x3) fun y1 => (Option.bind (affix_Resolve y0.2 x1 x3) fun y2 => (some (⟨y1, y2⟩ : St63)))))
theorem affix_Of_ok {x0 : St32} {x1 : St22} {x2 : Int} {x3 : List Int} {r : St63} (h : affix_Of x0 x1 x2 x3 = some r) : SC Tryz.prog 118 [.agg (encSt32 x0), .agg (encSt22 x1), iL x2, lR x3] [] (.agg (encSt63 r)) [] := by
 refine kFn (fn := Tryz.f118) (fun F hFn hFH hFD => ?_)
 unfold affix_Of at h
 refine kSR ?_
 refine kC 3 [2,3,4,5,8] ?_
 refine kEN ?_
 refine kSR ?_
 refine kC 2 [3,5,8,12,13] ?_
 obtain ⟨y0, hy0, h0⟩ := bindS h
 refine kA 14 (affix_Signed_ok hy0) ?_
 refine kC 5 [3,5,8,9,10] ?_
 refine kEN ?_
 refine kS ?_
 refine J.keep [3, 5, 8, 9, 10] (L2 := [(3, lR x3), (5, .ptr 1 0), (8, .ptr 2 0), (9, lsv encSt106 2 y0.1), (10, lsv encSt106 2 y0.2)]) (by kernel_rfl) ?_
 refine K.draw (by kernel_rfl) (by kernel_rfl) (by kernel_rfl) (H2 := [.box (encSt32 x0), .box (encSt22 x1), .box [.nl, .nl], .res, .res]) (by kernel_rfl) (n := 3) (by kernel_rfl) ?_
 refine kD 3 ?_
 obtain ⟨y1, hy1, h1⟩ := bindS h0
 refine RJ.call0 (d := (some 20)) (f := 149) (args := [lsv encSt106 2 y0.1, .agg (encSt22 x1), lR x3]) (v := lR y1) (tr2 := [([], []), ([2, 3], []), ([], []), ([], [6, 7])]) (by kernel_rfl) (by kernel_rfl) (.cons (Le.refl _) (.cons (Le.refl _) (.cons (Le.refl _) .nil))) (affix_Resolve_ok hy1) (by kernel_rfl) ?_
 refine kD 3 ?_
 obtain ⟨y2, hy2, h2⟩ := bindS h1
 refine RJ.call0 (d := (some 24)) (f := 149) (args := [lsv encSt106 2 y0.2, .agg (encSt22 x1), lR x3]) (v := lR y2) (tr2 := [([], []), ([2, 3], []), ([], []), ([], [6, 7]), ([], []), ([2, 3], []), ([], []), ([], [8, 9])]) (by kernel_rfl) (by kernel_rfl) (.cons (Le.refl _) (.cons (Le.refl _) (.cons (Le.refl _) .nil))) (affix_Resolve_ok hy2) (by kernel_rfl) ?_
 refine kD 2 ?_
 refine kEN ?_
 refine kX ?_
 obtain rfl := oi h2
 exact kZ hFn hFH hFD
def loc_around (x0 : St22) (x1 : St32) (x2 : List Int) : Option (St124) :=
 (Option.bind (affix_Of x1 x0 0 x2) fun y0 => (Option.bind (affix_Of x1 x0 1 x2) fun y1 => (Option.bind (affix_Of x1 x0 2 x2) fun y2 => (some (⟨y0, y1, y2⟩ : St124)))))
theorem loc_around_ok {x0 : St22} {x1 : St32} {x2 : List Int} {r : St124} (h : loc_around x0 x1 x2 = some r) : SC Tryz.prog 80 [.agg (encSt22 x0), .agg (encSt32 x1), lR x2] [] (.agg (encSt124 r)) [] := by
 refine kFn (fn := Tryz.f80) (fun F hFn hFH hFD => ?_)
 unfold loc_around at h
 refine kSR ?_
 refine kC 3 [2,3,4,6] ?_
 refine kEN ?_
 refine kS ?_
 refine J.keep [2, 3, 4, 6] (L2 := [(2, lR x2), (3, .ptr 0 0), (4, .ptr 1 0), (6, .ptr 2 0)]) (by kernel_rfl) ?_
 refine K.draw (by kernel_rfl) (by kernel_rfl) (by kernel_rfl) (H2 := [.box (encSt22 x0), .box (encSt32 x1), .box [.nl, .nl, .nl, .nl, .nl, .nl], .res, .res, .res]) (by kernel_rfl) (n := 3) (by kernel_rfl) ?_
 refine kD 3 ?_
 obtain ⟨y0, hy0, h0⟩ := bindS h
 refine RJ.call0 (d := (some 10)) (f := 118) (args := [.agg (encSt32 x1), .agg (encSt22 x0), iL 0, lR x2]) (v := .agg (encSt63 y0)) (tr2 := [([2, 3], []), ([0, 1], []), ([], []), ([], [6, 7])]) (by kernel_rfl) (by kernel_rfl) (.cons (Le.refl _) (.cons (Le.refl _) (.cons (Le.refl _) (.cons (Le.refl _) .nil)))) (affix_Of_ok hy0) (by kernel_rfl) ?_
 refine kD 3 ?_
 obtain ⟨y1, hy1, h1⟩ := bindS h0
 refine RJ.call0 (d := (some 14)) (f := 118) (args := [.agg (encSt32 x1), .agg (encSt22 x0), iL 1, lR x2]) (v := .agg (encSt63 y1)) (tr2 := [([2, 3], []), ([0, 1], []), ([], []), ([], [6, 7]), ([2, 3], []), ([0, 1], []), ([], []), ([], [8, 9])]) (by kernel_rfl) (by kernel_rfl) (.cons (Le.refl _) (.cons (Le.refl _) (.cons (Le.refl _) (.cons (Le.refl _) .nil)))) (affix_Of_ok hy1) (by kernel_rfl) ?_
 refine kD 3 ?_
 obtain ⟨y2, hy2, h2⟩ := bindS h1
 refine RJ.call0 (d := (some 18)) (f := 118) (args := [.agg (encSt32 x1), .agg (encSt22 x0), iL 2, lR x2]) (v := .agg (encSt63 y2)) (tr2 := [([2, 3], []), ([0, 1], []), ([], []), ([], [6, 7]), ([2, 3], []), ([0, 1], []), ([], []), ([], [8, 9]), ([2, 3], []), ([0, 1], []), ([], []), ([], [10, 11])]) (by kernel_rfl) (by kernel_rfl) (.cons (Le.refl _) (.cons (Le.refl _) (.cons (Le.refl _) (.cons (Le.refl _) .nil)))) (affix_Of_ok hy2) (by kernel_rfl) ?_
 refine kD 2 ?_
 refine kEN ?_
 refine kX ?_
 obtain rfl := oi h2
 exact kZ hFn hFH hFD
def slices_Clone (x0 : List Int) : Option (List Int) :=
 (bif (Nat.beq x0.length 0) then agree (some ([] : List Int)) (bif room x0.length then (some x0) else none) else (bif room x0.length then (some x0) else none))
theorem slices_Clone_ok_o {x0 : List Int} {r : List Int} (h : slices_Clone x0 = some r) : SC Tryz.prog 119 [lR x0] [] (.vc 0) [vecL (encI .i32) 1 21 r] := by
 refine kFn (fn := Tryz.f119) (fun F hFn hFH hFD => ?_)
 unfold slices_Clone at h
 refine kSR ?_
 refine kC 1 [0,2] ?_
 refine kEN ?_
 refine kS ?_
 refine kSR ?_
 refine kC 1 [0,2,3] ?_
 refine RJ.isNil (d := 4) (n := x0.length) (eq := true) (by kernel_rfl) (fun b hb0 => ?_)
 cases b
 ·have h0 := agreeF h
  refine kEN ?_
  refine kF ?_
  refine kK ?_
  refine PJ.next ?_
  refine kSR ?_
  refine kC 2 [2,5,6] ?_
  obtain ⟨hm, h1⟩ := asrt h0
  refine RJ.rel (d := (some 7)) (ef' := ⟨.vc 0, [], [(0, .vec x0.length 1 21 (x0.flatMap (encI .i32)))]⟩) (tr2 := []) (H2 := [vecL (encI .i32) 1 21 x0]) (by kernel_rfl) hm (fun hc => rfl) (by kernel_rfl) ?_
  refine kC 1 [2] ?_
  refine kEN ?_
  refine kX ?_
  obtain rfl := oi h1
  exact kV [0] hFn hFH hFD (v1 := .vc 0)
 ·have h2 := agreeT (by rw [hb0 rfl]; rfl) h
  refine kEN ?_
  refine kT ?_
  refine kSR ?_
  refine kC 1 [0,2] ?_
  refine kEN ?_
  refine kX ?_
  refine PJ.passRet ?_
  obtain rfl := oi h2
  refine PJ.wk (Wk.viv 2 1 21 (by kernel_rfl)) ?_
  exact kV [0] hFn hFH hFD (v1 := .vc 0)
def k0_ : List Int := [48, 1632, 1776, 1984, 2406, 2534, 2662, 2790, 2918, 3046, 3174, 3302, 3430, 3664, 3792, 3872, 6112, 6160, 65296, 120782]
def class_Value (x0 : Int) : Option (Int × Bool) :=
 (Option.bind (loopN (fun (s0 : Int) => (bif (decide (s0 < 20)) then (Option.bind (bif inR s0 20 then (Option.bind (bif (decide ((nth k0_ s0) ≤ x0)) then (some ((decide (x0 ≤ ((IntKind.wrap .i32 ((nth k0_ s0) + 9))))))) else (some false)) fun (s1 : Bool) => (bif s1 then (some (.inr (.inr (.inr ((IntKind.wrap .i64 ((IntKind.wrap .i32 (x0 - (nth k0_ s0))))), true))))) else (some (.inl ())))) else none) (joinX fun (s2 : Unit) => (some (.inl (IntKind.wrap .i64 (s0 + 1)))))) else (some (.inr (.inl ()))))) big 0) (joinX fun (s3 : Unit) => (some (0, false))))
theorem class_Value_ok {x0 : Int} {r : Int × Bool} (h : class_Value x0 = some r) : SC Tryz.prog 92 [iM x0] [] (.tup [iL r.1, .bool r.2]) [] := by
 refine kFn (fn := Tryz.f92) (fun F hFn hFH hFD => ?_)
 unfold class_Value at h
 refine kSR ?_
 refine kC 2 [0,2,3] ?_
 refine kEN ?_
 obtain ⟨y0, hy0, h0⟩ := bindS h
 refine K.cutX (by kernel_rfl) (fun (s3 : Unit) => ([(2, iL 0), (3, .bool false)], [])) y0 ?_ (fun s3 hs => ?_)
 ·refine kSR ?_
  refine kC 2 [0,2,3,6,7] ?_
  refine kEN ?_
  refine kb 0 ?_
  refine kl (fun (s0 : Int) => ([(0, iM x0), (2, iL 0), (3, .bool false), (6, .agg [iM 48, iM 1632, iM 1776, iM 1984, iM 2406, iM 2534, iM 2662, iM 2790, iM 2918, iM 3046, iM 3174, iM 3302, iM 3430, iM 3664, iM 3792, iM 3872, iM 6112, iM 6160, iM 65296, iM 120782]), (7, iL s0)], [])) hy0 [0, 2, 3, 6, 7] (fun s0 x247 hs0 => ?_)
  refine kSR ?_
  refine kC 1 [0,2,3,6,7,8] ?_
  refine kEN ?_
  refine kS ?_
  refine kBJ 8 hs0 (fun h2 => ?_) (fun h3 => ?_)
  ·refine kT ?_
   refine kK ?_
   refine PJ.next ?_
   obtain ⟨y1, hy1, h1⟩ := bindS h2
   refine K.cutX (by kernel_rfl) (fun (s2 : Unit) => ([(0, iM x0), (2, iL 0), (3, .bool false), (6, .agg [iM 48, iM 1632, iM 1776, iM 1984, iM 2406, iM 2534, iM 2662, iM 2790, iM 2918, iM 3046, iM 3174, iM 3302, iM 3430, iM 3664, iM 3792, iM 3872, iM 6112, iM 6160, iM 65296, iM 120782]), (7, iL s0)], [])) y1 ?_ (fun s2 hs => ?_)
   ·refine kb 1 ?_
    refine kSR ?_
    obtain ⟨hm, h4⟩ := asrt hy1
    refine RJ.rel (d := (some 9)) (ef := ⟨((k0_.flatMap (encI .i32)).drop ((s0 : Int).toNat * 1)).headD .undef, [], []⟩) (ef' := ⟨iM (nth k0_ s0), [], []⟩) (c := inR s0 20) (tr2 := []) (H2 := []) (by kernel_rfl) hm (fun hc => N.load1 (encI_len .i32) (fun _ => rfl) hc) (by kernel_rfl) ?_
    refine kC 1 [0,2,3,5,6,7] ?_
    refine kEN ?_
    obtain ⟨s1, hy2, h5⟩ := bindS h4
    refine K.cutN (by kernel_rfl) (fun (s1 : Bool) => ([(0, iM x0), (2, iL 0), (3, .bool false), (5, iM (nth k0_ s0)), (6, .agg [iM 48, iM 1632, iM 1776, iM 1984, iM 2406, iM 2534, iM 2662, iM 2790, iM 2918, iM 3046, iM 3174, iM 3302, iM 3430, iM 3664, iM 3792, iM 3872, iM 6112, iM 6160, iM 65296, iM 120782]), (7, iL s0), (18, .bool s1)], [])) s1 ?_ ?_
    ·refine kR ?_
     refine kC 4 [0,2,3,5,6,7,13] ?_
     refine kB 13 hy2 (fun h6 => ?_) (fun h7 => ?_)
     ·refine kC 5 [0,2,3,5,6,7,18] ?_
      refine kE ?_
      obtain rfl := oi h6
      exact kN [0, 2, 3, 5, 6, 7, 18]
     ·refine kC 5 [0,2,3,5,6,7,18] ?_
      refine kE ?_
      obtain rfl := oi h7
      exact kN [0, 2, 3, 5, 6, 7, 18]
    ·refine kBJ 18 h5 (fun h8 => ?_) (fun h9 => ?_)
     ·refine kT ?_
      refine kSR ?_
      refine kC 6 [0,2,3,6,7] ?_
      refine kEN ?_
      refine kX ?_
      refine PJ.blockRet ?_
      obtain rfl := oi h8
      have h10 := joinX_inr h1
      refine PJ.cutXr (fun e => nomatch e) ?_
      obtain rfl := oi h10
      refine PJ.loopOut (fun e => nomatch e) (fun he0 => ?_)
      have h11 := congrArg some he0
      refine PJ.blockRet ?_
      obtain rfl := oi h11
      have h12 := joinX_inr h0
      refine PJ.cutXr (fun e => nomatch e) ?_
      obtain rfl := oi h12
      exact kZ hFn hFH hFD
     ·refine kF ?_
      refine kK ?_
      refine PJ.blockNormal ?_
      obtain rfl := oi h9
      exact kXl [0, 2, 3, 6, 7]
   ·subst hs
    have h13 := joinX_inl h1
    refine kR ?_
    refine kC 2 [0,2,3,6,7] ?_
    refine kE ?_
    obtain rfl := oi h13
    exact kLN [0, 2, 3, 6, 7]
  ·refine kF ?_
   refine K.exit 0 (by kernel_rfl) ?_
   refine PJ.passExit ?_
   obtain rfl := oi h3
   refine PJ.loopOut (fun e => nomatch e) (fun he1 => ?_)
   have h14 := congrArg some he1
   refine PJ.blockOut ?_
   obtain rfl := oi h14
   exact kXl [2, 3]
 ·subst hs
  have h15 := joinX_inl h0
  refine kSR ?_
  refine kC 2 [2,3] ?_
  refine kEN ?_
  refine kX ?_
  obtain rfl := oi h15
  exact kZ hFn hFH hFD
def sym_between (x0 : St22) (x1 : Int) : Option (Bool) :=
 (Option.bind (bif (decide (x1 = x0.Dec_)) then none else (bif (decide (x1 = x0.Group_)) then none else (some ()))) fun (s0 : Unit) => (some (decide (x1 = x0.Exp_))))
theorem sym_between_ok {x0 : St22} {x1 : Int} {r : Bool} (h : sym_between x0 x1 = some r) : SC Tryz.prog 93 [.agg (encSt22 x0), iM x1] [] (.bool r) [] := by
 refine kFn (fn := Tryz.f93) (fun F hFn hFH hFD => ?_)
 unfold sym_between at h
 refine kSR ?_
 refine kC 2 [1,2,4] ?_
 refine kEN ?_
 obtain ⟨s0, hy0, h0⟩ := bindS h
 refine K.cutN (by kernel_rfl) (fun (s0 : Unit) => ([(4, .bool (decide (x1 = x0.Exp_)))], [])) s0 ?_ ?_
 ·refine kR ?_
  refine kC 5 [1,2,4,9] ?_
  refine cTR 9 hy0 (fun h1 => ?_)
  refine kC 6 [1,2,4,15] ?_
  refine cTR 15 h1 (fun h2 => ?_)
  refine kC 6 [4] ?_
  refine kE ?_
  obtain rfl := oi h2
  refine kW (L2 := [(4, .bool (decide (x1 = x0.Exp_)))]) (H2 := []) hFH hFD [] ?_
  exact kN [4]
 ·refine kX ?_
  obtain rfl := oi h0
  exact kZ hFn hFH hFD
structure St196 where
 a0_ : Int
 a1_ : Int
 deriving Inhabited, DecidableEq
def encSt196 (x : St196) : List SV := [.int .i32 x.a0_, .int .i32 x.a1_]
theorem encSt196_len (x : St196) : (encSt196 x).length = 2 := rfl
def class_ranges_s0  : Option ((List (St196 × Int))) :=
 (some (([((⟨0, 31⟩ : St196), 1), ((⟨127, 159⟩ : St196), 1), ((⟨1564, 1564⟩ : St196), 2), ((⟨8206, 8207⟩ : St196), 2), ((⟨8234, 8238⟩ : St196), 2), ((⟨8294, 8297⟩ : St196), 2), ((⟨64976, 65007⟩ : St196), 3), ((⟨32, 32⟩ : St196), 4), ((⟨160, 160⟩ : St196), 4), ((⟨5760, 5760⟩ : St196), 4), ((⟨8192, 8202⟩ : St196), 4), ((⟨8232, 8233⟩ : St196), 4), ((⟨8239, 8239⟩ : St196), 4), ((⟨8287, 8287⟩ : St196), 4), ((⟨12288, 12288⟩ : St196), 4)] : List (St196 × Int))))
theorem class_ranges_s0_ok  {r : (List (St196 × Int))} (h : class_ranges_s0 = some r) : SC Tryz.prog 121 [] [] (.mp 0) [.pmap (mapL (fun k : St196 => .agg (encSt196 k)) (fun k : Int => iL k) r)] := by
 refine kFn (fn := Tryz.f121) (fun F hFn hFH hFD => ?_)
 unfold class_ranges_s0 at h
 refine kSR ?_
 refine kC 1 [] ?_
 refine kEN ?_
 refine kS ?_
 refine J.keep [] (L2 := []) (by kernel_rfl) ?_
 refine K.mapLitC 196 (es := mapL (fun k : St196 => .agg (encSt196 k)) (fun k : Int => iL k) ([((⟨0, 31⟩ : St196), 1), ((⟨127, 159⟩ : St196), 1), ((⟨1564, 1564⟩ : St196), 2), ((⟨8206, 8207⟩ : St196), 2), ((⟨8234, 8238⟩ : St196), 2), ((⟨8294, 8297⟩ : St196), 2), ((⟨64976, 65007⟩ : St196), 3), ((⟨32, 32⟩ : St196), 4), ((⟨160, 160⟩ : St196), 4), ((⟨5760, 5760⟩ : St196), 4), ((⟨8192, 8202⟩ : St196), 4), ((⟨8232, 8233⟩ : St196), 4), ((⟨8239, 8239⟩ : St196), 4), ((⟨8287, 8287⟩ : St196), 4), ((⟨12288, 12288⟩ : St196), 4)] : List (St196 × Int))) (L2 := [(0, .mp 0)]) (by kernel_rfl) (by kernel_rfl) (n := 0) (by kernel_rfl) (by kernel_rfl) (by kernel_rfl) (by kernel_rfl) (by kernel_rfl) (by kernel_rfl) [0] (by kernel_rfl) ?_
 refine PJ.next ?_
 refine kX ?_
 obtain rfl := oi h
 exact K.retV (H0 := []) [0] (.inr rfl) hFn hFH hFD (by kernel_rfl) (v1 := .mp 0) (by kernel_rfl) (by kernel_rfl) (by simp only [List.map_cons, List.map_nil, rn_pmapL (ek := (fun k : St196 => .agg (encSt196 k))) (ev := (fun k : Int => iL k)) (fun _ _ => rfl) (fun _ _ => rfl)]; kernel_rfl) (by decide) (by simp only [List.all_cons, List.all_nil, refs_pmapL (ek := (fun k : St196 => .agg (encSt196 k))) (ev := (fun k : Int => iL k)) (fun _ _ => rfl) (fun _ _ => rfl)]; kernel_rfl) (by kernel_rfl) (by kernel_rfl) (by kernel_rfl) (by kernel_rfl)
def class_table__class_s0 (x0 : Int) (x1 : List (St196 × Int)) : Option (Int × (List (St196 × Int))) :=
 (Option.bind (utf_Is x0) fun y0 => (bif (!y0) then none else (bif (decide ((bits .and .i32 x0 65534) = 65534)) then none else (Option.bind (Option.bind (mapRun (fun (e46 : St196 × Int) => (Option.bind (bif (decide (e46.1.a0_ ≤ x0)) then (some (decide (x0 ≤ e46.1.a1_))) else (some false)) fun (s0 : Bool) => (bif s0 then none else (some (.inl ()))))) x1) (joinX fun (_ : Unit) => (some ()))) fun (s1 : Unit) => (Option.bind (class_Value x0) fun y1 => (bif y1.2 then none else (some (0, x1))))))))
theorem class_table__class_s0_ok {x0 : Int} {x1 : List (St196 × Int)} {r : Int × (List (St196 × Int))} (h : class_table__class_s0 x0 x1 = some r) : SC Tryz.prog 122 [.mp 0, iM x0] [.map (mapL (fun k : St196 => .agg (encSt196 k)) (fun k : Int => iL k) x1)] (iL r.1) [.map (mapL (fun k : St196 => .agg (encSt196 k)) (fun k : Int => iL k) r.2)] := by
 refine kFn (fn := Tryz.f122) (fun F hFn hFH hFD => ?_)
 unfold class_table__class_s0 at h
 refine kSR ?_
 refine kC 1 [0,1,4] ?_
 refine kEN ?_
 refine kS ?_
 refine kSR ?_
 refine kC 1 [0,1,4,8] ?_
 obtain ⟨y0, hy0, h0⟩ := bindS h
 refine kA 9 (utf_Is_ok hy0) ?_
 refine kC 1 [0,1,4,10] ?_
 refine kEN ?_
 refine cT 10 h0 (fun h1 => ?_)
 refine kF ?_
 refine kK ?_
 refine PJ.next ?_
 refine kS ?_
 refine kSR ?_
 refine kC 3 [0,1,4,13] ?_
 refine kEN ?_
 refine cT 13 h1 (fun h2 => ?_)
 refine kF ?_
 refine kK ?_
 refine PJ.next ?_
 obtain ⟨s1, hy1, h3⟩ := bindS h2
 refine K.cutN (by kernel_rfl) (fun (s1 : Unit) => ([(1, iM x0), (4, iL 0)], [.map (mapL (fun k : St196 => .agg (encSt196 k)) (fun k : Int => iL k) x1)])) s1 ?_ ?_
 ·refine kSR ?_
  refine kC 1 [0,1,4,14] ?_
  refine RJ.range (d := (some 15)) (i := 0) (n := (mapL (fun k : St196 => .agg (encSt196 k)) (fun k : Int => iL k) x1).length) (by kernel_rfl) ?_
  refine kEN ?_
  refine kb 0 ?_
  obtain ⟨y2, hy2, h4⟩ := bindS hy1
  refine K.mapLoop 15 16 17 0 1 0 (n := (mapL (fun k : St196 => .agg (encSt196 k)) (fun k : Int => iL k) x1).length) (by kernel_rfl) (by kernel_rfl) _ _ (fun p : St196 × Int => ((fun k : St196 => .agg (encSt196 k)) p.1, (fun k : Int => iL k) p.2)) hy2 [0, 1, 4, 15] (L2 := [(0, .mp 0), (1, iM x0), (4, iL 0), (15, .ptr 1 0)]) (by kernel_rfl) (by kernel_rfl) (by kernel_rfl) (by kernel_rfl) (by kernel_rfl) (by kernel_rfl) (fun sq => [.map (mapL (fun k : St196 => .agg (encSt196 k)) (fun k : Int => iL k) x1), .itr 0 ((mapL (fun k : St196 => .agg (encSt196 k)) (fun k : Int => iL k) x1).length) sq]) (by kernel_rfl) (fun _ _ => by kernel_rfl) (fun _ => by kernel_rfl) (fun _ => by kernel_rfl) rfl (fun sv47 he0 => ?_) (fun sv47 bv48 e46 x64 hb0 hx43 => ?_)
  ·subst he0
   have h5 := joinX_inl h4
   refine PJ.blockOut ?_
   obtain rfl := oi h5
   refine PJ.wk (Wk.sel (L2 := [(1, iM x0), (4, iL 0)]) (H2 := [.map (mapL (fun k : St196 => .agg (encSt196 k)) (fun k : Int => iL k) x1)]) 1 (by rw [hFH]; rfl) hFD [0] (by kernel_rfl) (by simp only [List.map_cons, List.map_nil, rn_mapL (ek := (fun k : St196 => .agg (encSt196 k))) (ev := (fun k : Int => iL k)) (fun _ _ => rfl) (fun _ _ => rfl)]; kernel_rfl) (by decide) (by simp only [List.all_cons, List.all_nil, refs_mapL (ek := (fun k : St196 => .agg (encSt196 k))) (ev := (fun k : Int => iL k)) (fun _ _ => rfl) (fun _ _ => rfl)]; kernel_rfl) (by kernel_rfl) (by kernel_rfl) (by kernel_rfl)) ?_
   exact kN [1, 4]
  ·refine kb 1 ?_
   refine kSR ?_
   refine RJ.entry (d := (some 18)) (i := 0) (n := (mapL (fun k : St196 => .agg (encSt196 k)) (fun k : Int => iL k) x1).length) (b := bv48) (s := sv47) (kv := ((.agg (encSt196 e46.1) : SV), (iL e46.2 : SV))) (by kernel_rfl) (by kernel_rfl) rfl hb0 ?_
   refine kC 3 [0,1,4,5,15] ?_
   refine kEN ?_
   obtain ⟨s0, hy3, h6⟩ := bindS hx43
   refine K.cutN (by kernel_rfl) (fun (s0 : Bool) => ([(0, .mp 0), (1, iM x0), (4, iL 0), (5, .ptr 1 0), (15, .ptr 2 0), (29, .bool s0)], [.map (mapL (fun k : St196 => .agg (encSt196 k)) (fun k : Int => iL k) x1), .box (encSt196 e46.1), .itr 0 ((mapL (fun k : St196 => .agg (encSt196 k)) (fun k : Int => iL k) x1).length) (sv47 ++ [bv48])])) s0 ?_ ?_
   ·refine kR ?_
    refine kC 5 [0,1,4,5,15,24] ?_
    refine kB 24 hy3 (fun h7 => ?_) (fun h8 => ?_)
    ·refine kC 5 [0,1,4,5,15,29] ?_
     refine kE ?_
     obtain rfl := oi h7
     refine PJ.wk (Wk.sel (L2 := [(0, .mp 0), (1, iM x0), (4, iL 0), (5, .ptr 1 0), (15, .ptr 2 0), (29, .bool (decide (x0 ≤ e46.1.a1_)))]) (H2 := [.map (mapL (fun k : St196 => .agg (encSt196 k)) (fun k : Int => iL k) x1), .box (encSt196 e46.1), .itr 0 ((mapL (fun k : St196 => .agg (encSt196 k)) (fun k : Int => iL k) x1).length) (sv47 ++ [bv48])]) 1 (by rw [hFH]; rfl) hFD [0, 2, 1] (by kernel_rfl) (by simp only [List.map_cons, List.map_nil, rn_mapL (ek := (fun k : St196 => .agg (encSt196 k))) (ev := (fun k : Int => iL k)) (fun _ _ => rfl) (fun _ _ => rfl)]; kernel_rfl) (by decide) (by simp only [List.all_cons, List.all_nil, refs_mapL (ek := (fun k : St196 => .agg (encSt196 k))) (ev := (fun k : Int => iL k)) (fun _ _ => rfl) (fun _ _ => rfl)]; kernel_rfl) (by kernel_rfl) (by kernel_rfl) (by kernel_rfl)) ?_
     exact kN [0, 1, 4, 5, 15, 29]
    ·refine kC 5 [0,1,4,5,15,29] ?_
     refine kE ?_
     obtain rfl := oi h8
     refine PJ.wk (Wk.sel (L2 := [(0, .mp 0), (1, iM x0), (4, iL 0), (5, .ptr 1 0), (15, .ptr 2 0), (29, .bool false)]) (H2 := [.map (mapL (fun k : St196 => .agg (encSt196 k)) (fun k : Int => iL k) x1), .box (encSt196 e46.1), .itr 0 ((mapL (fun k : St196 => .agg (encSt196 k)) (fun k : Int => iL k) x1).length) (sv47 ++ [bv48])]) 1 (by rw [hFH]; rfl) hFD [0, 2, 1] (by kernel_rfl) (by simp only [List.map_cons, List.map_nil, rn_mapL (ek := (fun k : St196 => .agg (encSt196 k))) (ev := (fun k : Int => iL k)) (fun _ _ => rfl) (fun _ _ => rfl)]; kernel_rfl) (by decide) (by simp only [List.all_cons, List.all_nil, refs_mapL (ek := (fun k : St196 => .agg (encSt196 k))) (ev := (fun k : Int => iL k)) (fun _ _ => rfl) (fun _ _ => rfl)]; kernel_rfl) (by kernel_rfl) (by kernel_rfl) (by kernel_rfl)) ?_
     exact kN [0, 1, 4, 5, 15, 29]
   ·refine cT 29 h6 (fun h9 => ?_)
    refine kF ?_
    refine kK ?_
    refine PJ.blockNormal ?_
    obtain rfl := oi h9
    refine PJ.wk (Wk.sel (L2 := [(0, .mp 0), (1, iM x0), (4, iL 0), (15, .ptr 1 0)]) (H2 := [.map (mapL (fun k : St196 => .agg (encSt196 k)) (fun k : Int => iL k) x1), .itr 0 ((mapL (fun k : St196 => .agg (encSt196 k)) (fun k : Int => iL k) x1).length) (sv47 ++ [bv48])]) 1 (by rw [hFH]; rfl) hFD [0, 2] (by kernel_rfl) (by simp only [List.map_cons, List.map_nil, rn_mapL (ek := (fun k : St196 => .agg (encSt196 k))) (ev := (fun k : Int => iL k)) (fun _ _ => rfl) (fun _ _ => rfl)]; kernel_rfl) (by decide) (by simp only [List.all_cons, List.all_nil, refs_mapL (ek := (fun k : St196 => .agg (encSt196 k))) (ev := (fun k : Int => iL k)) (fun _ _ => rfl) (fun _ _ => rfl)]; kernel_rfl) (by kernel_rfl) (by kernel_rfl) (by kernel_rfl)) ?_
    exact PJ.mapNext [0, 1, 4, 15] (by kernel_rfl) (by kernel_rfl)
 ·refine kS ?_
  refine kSR ?_
  refine kC 1 [4,34] ?_
  obtain ⟨y1, hy4, h10⟩ := bindS h3
  refine kA 35 (class_Value_ok hy4) ?_
  refine kC 5 [4,7] ?_
  refine kEN ?_
  refine kSR ?_
  refine kC 1 [4,38] ?_
  refine kEN ?_
  refine cT 38 h10 (fun h11 => ?_)
  refine kF ?_
  refine kK ?_
  refine PJ.next ?_
  refine kSR ?_
  refine kC 1 [4] ?_
  refine kEN ?_
  refine kX ?_
  obtain rfl := oi h11
  exact K.retV (H0 := [.map (mapL (fun k : St196 => .agg (encSt196 k)) (fun k : Int => iL k) x1)]) [0] (.inr rfl) hFn hFH hFD (by kernel_rfl) (v1 := iL 0) (by kernel_rfl) (by kernel_rfl) (by simp only [List.map_cons, List.map_nil, rn_mapL (ek := (fun k : St196 => .agg (encSt196 k))) (ev := (fun k : Int => iL k)) (fun _ _ => rfl) (fun _ _ => rfl)]; kernel_rfl) (by decide) (by simp only [List.all_cons, List.all_nil, refs_mapL (ek := (fun k : St196 => .agg (encSt196 k))) (ev := (fun k : Int => iL k)) (fun _ _ => rfl) (fun _ _ => rfl)]; kernel_rfl) (by kernel_rfl) (by kernel_rfl) (by kernel_rfl) (by kernel_rfl)
noncomputable def class_CalmM (x0 : List Int) : Option (Bool) :=
 (Option.bind class_ranges_s0 fun y1 => anyOrd (fun (ms4 : List (St196 × Int)) => (Option.bind (loopN (fun (s0 : Int × (List (St196 × Int))) => (bif (decide (s0.1 < (x0.length : Int))) then (Option.bind (bif inR s0.1 x0.length then (Option.bind (class_table__class_s0 (nth x0 s0.1) s0.2) fun y0 => (Option.bind (bif (decide (y0.1 = 0)) then (some ()) else none) fun (s2 : Unit) => (some y0.2))) else none) fun (s1 : (List (St196 × Int))) => (some (.inl ((IntKind.wrap .i64 (s0.1 + 1)), s1)))) else (some (.inr ())))) big (0, ms4)) fun (s3 : Unit) => (some true))) y1)
theorem class_CalmM_ok {x0 : List Int} {r : Bool} (h : class_CalmM x0 = some r) : SC Tryz.prog 94 [lR x0] [] (.bool r) [] := by
 refine kFn (fn := Tryz.f94) (fun F hFn hFH hFD => ?_)
 unfold class_CalmM at h
 refine kSR ?_
 refine kC 1 [0,2] ?_
 refine kEN ?_
 refine kSR ?_
 obtain ⟨y1, hy0, h0⟩ := bindS h
 refine RJ.callG (d := (some 6)) (f := 121) (args := []) (args0 := []) (v0 := .mp 0) (v := .mp 0) (tr2 := []) (H0 := []) (H0' := [.pmap (mapL (fun k : St196 => .agg (encSt196 k)) (fun k : Int => iL k) y1)]) (H2 := [.pmap (mapL (fun k : St196 => .agg (encSt196 k)) (fun k : Int => iL k) y1)]) [] (by kernel_rfl) (by kernel_rfl) (by kernel_rfl) (by kernel_rfl) (by decide) (by kernel_rfl) (by kernel_rfl) (by kernel_rfl) .nil (class_ranges_s0_ok hy0) (by kernel_rfl) (by kernel_rfl) ((show frameH (selF []) 0 _ [.pmap (mapL (fun k : St196 => .agg (encSt196 k)) (fun k : Int => iL k) y1)] = [Ent.rn (gOf (selF []) 0 0) (.pmap (mapL (fun k : St196 => .agg (encSt196 k)) (fun k : Int => iL k) y1))] by kernel_rfl).trans (by simp only [rn_pmapL (ek := (fun k : St196 => .agg (encSt196 k))) (ev := (fun k : Int => iL k)) (fun _ _ => rfl) (fun _ _ => rfl)])) ?_
 refine RJ.openMap (ek := (fun k : St196 => .agg (encSt196 k))) (ev := (fun k : Int => iL k)) y1 0 (fun ms4 => [.map (mapL (fun k : St196 => .agg (encSt196 k)) (fun k : Int => iL k) ms4)]) (by kernel_rfl) (fun _ => by kernel_rfl) (fun ms4 hp5 => ?_)
 have h1 := anyOrd_all h0 ms4 hp5
 refine kC 1 [0,2,3] ?_
 refine kEN ?_
 obtain ⟨s3, hy1, h2⟩ := bindS h1
 refine K.cutN (by kernel_rfl) (fun (s3 : Unit) => ([(2, .bool false)], [])) s3 ?_ ?_
 ·refine kSR ?_
  refine kC 3 [2,3,7,8,9] ?_
  refine kEN ?_
  refine kb 0 ?_
  refine kl (fun (s0 : Int × (List (St196 × Int))) => ([(2, .bool false), (3, .mp 0), (7, lR x0), (8, iL (x0.length : Int)), (9, iL s0.1)], [.map (mapL (fun k : St196 => .agg (encSt196 k)) (fun k : Int => iL k) s0.2)])) hy1 [2, 3, 7, 8, 9] (fun s0 x217 hs0 => ?_)
  refine kSR ?_
  refine kC 1 [2,3,7,8,9,10] ?_
  refine kEN ?_
  refine kS ?_
  refine kBJ 10 hs0 (fun h3 => ?_) (fun h4 => ?_)
  ·refine kT ?_
   refine kK ?_
   refine PJ.next ?_
   obtain ⟨s1, hy2, h5⟩ := bindS h3
   refine K.cutN (by kernel_rfl) (fun (s1 : (List (St196 × Int))) => ([(2, .bool false), (3, .mp 0), (7, lR x0), (8, iL (x0.length : Int)), (9, iL s0.1)], [.map (mapL (fun k : St196 => .agg (encSt196 k)) (fun k : Int => iL k) s1)])) s1 ?_ ?_
   ·refine kb 1 ?_
    refine kSR ?_
    obtain ⟨hm, h6⟩ := asrt hy2
    refine kI 11 (encI_len .i32) hm ?_
    refine kC 2 [2,3,5,7,8,9] ?_
    refine kEN ?_
    refine kSR ?_
    refine kC 2 [2,3,7,8,9,13,14] ?_
    obtain ⟨y0, hy3, h7⟩ := bindS h6
    refine RJ.callG (d := (some 15)) (f := 122) (args := [.mp 0, iM (nth x0 s0.1)]) (args0 := [.mp 0, iM (nth x0 s0.1)]) (v0 := iL y0.1) (v := iL y0.1) (tr2 := []) (H0 := [.map (mapL (fun k : St196 => .agg (encSt196 k)) (fun k : Int => iL k) s0.2)]) (H0' := [.map (mapL (fun k : St196 => .agg (encSt196 k)) (fun k : Int => iL k) y0.2)]) (H2 := [.map (mapL (fun k : St196 => .agg (encSt196 k)) (fun k : Int => iL k) y0.2)]) [0] (by kernel_rfl) (by kernel_rfl) (by kernel_rfl) (by simp only [List.map_cons, List.map_nil, rn_mapL (ek := (fun k : St196 => .agg (encSt196 k))) (ev := (fun k : Int => iL k)) (fun _ _ => rfl) (fun _ _ => rfl)]; kernel_rfl) (by decide) (by simp only [List.all_cons, List.all_nil, refs_mapL (ek := (fun k : St196 => .agg (encSt196 k))) (ev := (fun k : Int => iL k)) (fun _ _ => rfl) (fun _ _ => rfl)]; kernel_rfl) (by kernel_rfl) (by kernel_rfl) (.cons (Le.refl _) (.cons (Le.refl _) .nil)) (class_table__class_s0_ok hy3) (by kernel_rfl) (by kernel_rfl) ((show frameH (selF [0]) 1 _ [.map (mapL (fun k : St196 => .agg (encSt196 k)) (fun k : Int => iL k) y0.2)] = [Ent.rn (gOf (selF [0]) 1 1) (.map (mapL (fun k : St196 => .agg (encSt196 k)) (fun k : Int => iL k) y0.2))] by kernel_rfl).trans (by simp only [rn_mapL (ek := (fun k : St196 => .agg (encSt196 k))) (ev := (fun k : Int => iL k)) (fun _ _ => rfl) (fun _ _ => rfl)])) ?_
    refine kEN ?_
    refine kb 2 ?_
    obtain ⟨s2, hy4, h8⟩ := bindS h7
    refine K.cutN (by kernel_rfl) (fun (s2 : Unit) => ([(2, .bool false), (3, .mp 0), (7, lR x0), (8, iL (x0.length : Int)), (9, iL s0.1), (16, .bool true)], [.map (mapL (fun k : St196 => .agg (encSt196 k)) (fun k : Int => iL k) y0.2)])) s2 ?_ ?_
    ·refine kSR ?_
     refine kC 2 [2,3,7,8,9,15,16] ?_
     refine kEN ?_
     refine cF 16 hy4 (fun h9 => ?_)
     refine kT ?_
     refine kK ?_
     obtain rfl := oi h9
     exact kN [2, 3, 7, 8, 9, 16]
    ·refine kT ?_
     refine kK ?_
     refine PJ.blockNormal ?_
     refine PJ.blockNormal ?_
     obtain rfl := oi h8
     exact kN [2, 3, 7, 8, 9]
   ·refine kR ?_
    refine kC 2 [2,3,7,8,9] ?_
    refine kE ?_
    obtain rfl := oi h5
    exact kLN [2, 3, 7, 8, 9]
  ·refine kF ?_
   refine K.exit 0 (by kernel_rfl) ?_
   refine PJ.passExit ?_
   obtain rfl := oi h4
   refine PJ.loopOut (fun e => nomatch e) (fun he0 => ?_)
   have h10 := congrArg some he0
   refine PJ.blockOut ?_
   obtain rfl := oi h10
   refine kW (L2 := [(2, .bool false)]) (H2 := []) hFH hFD [] ?_
   exact kN [2]
 ·refine kSR ?_
  refine kC 1 [2] ?_
  refine kEN ?_
  refine kX ?_
  obtain rfl := oi h2
  exact kZ hFn hFH hFD
end Go.Proofs.YtcapcgbamehojaaGreatDoor
