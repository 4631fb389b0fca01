/-
  What the functions of this program come to, as functions of natives, each with the proof that it does. No conditions.
-/
import Derived.Test.YteaokhdkocddcaaDoorProg
import Derived.Test.YteaokhdkocddcaaDoorSySL
import Derived.Test.YteaokhdkocddcaaDoorSyRF
import Derived.Test.YteaokhdkocddcaaDoorSySC
import Derived.Shelf.Strings.Search1
import Derived.Shelf.Lays
import Derived.Lib.ItoaLen
namespace Go.Proofs.YteaokhdkocddcaaDoor
open Go Go.Sy Go.RowKit
set_option linter.unusedVariables false
set_option linter.unusedSimpArgs false
set_option maxRecDepth 100000
set_option maxHeartbeats 4000000
def gtabs : Nat → Option (List SV)
 | 1 => some [.int .u64 1, .int .u64 10, .int .u64 100, .int .u64 1000, .int .u64 10000, .int .u64 100000, .int .u64 1000000, .int .u64 10000000, .int .u64 100000000, .int .u64 1000000000, .int .u64 10000000000, .int .u64 100000000000, .int .u64 1000000000000, .int .u64 10000000000000, .int .u64 100000000000000, .int .u64 1000000000000000, .int .u64 10000000000000000, .int .u64 100000000000000000, .int .u64 1000000000000000000, .int .u64 10000000000000000000]
 | 2 => some [.int .u8 0, .int .u8 1, .int .u8 28, .int .u8 2, .int .u8 29, .int .u8 14, .int .u8 24, .int .u8 3, .int .u8 30, .int .u8 22, .int .u8 20, .int .u8 15, .int .u8 25, .int .u8 17, .int .u8 4, .int .u8 8, .int .u8 31, .int .u8 27, .int .u8 13, .int .u8 23, .int .u8 21, .int .u8 19, .int .u8 16, .int .u8 7, .int .u8 26, .int .u8 12, .int .u8 18, .int .u8 6, .int .u8 11, .int .u8 5, .int .u8 10, .int .u8 9]
 | 3 => some [.int .u8 0, .int .u8 1, .int .u8 56, .int .u8 2, .int .u8 57, .int .u8 49, .int .u8 28, .int .u8 3, .int .u8 61, .int .u8 58, .int .u8 42, .int .u8 50, .int .u8 38, .int .u8 29, .int .u8 17, .int .u8 4, .int .u8 62, .int .u8 47, .int .u8 59, .int .u8 36, .int .u8 45, .int .u8 43, .int .u8 51, .int .u8 22, .int .u8 53, .int .u8 39, .int .u8 33, .int .u8 30, .int .u8 24, .int .u8 18, .int .u8 12, .int .u8 5, .int .u8 63, .int .u8 55, .int .u8 48, .int .u8 27, .int .u8 60, .int .u8 41, .int .u8 37, .int .u8 16, .int .u8 46, .int .u8 35, .int .u8 44, .int .u8 21, .int .u8 52, .int .u8 32, .int .u8 23, .int .u8 11, .int .u8 54, .int .u8 26, .int .u8 40, .int .u8 15, .int .u8 34, .int .u8 20, .int .u8 31, .int .u8 10, .int .u8 25, .int .u8 14, .int .u8 19, .int .u8 9, .int .u8 13, .int .u8 8, .int .u8 7, .int .u8 6]
 | _ => none
instance : Inhabited GT := ⟨⟨gtabs⟩⟩
structure St45 where
 Cat_ : Int
 Text_ : List UInt8
 deriving Inhabited, DecidableEq
def encSt45 (x : St45) : List SV := [.int .i64 x.Cat_, .str x.Text_]
theorem encSt45_len (x : St45) : (encSt45 x).length = 2 := rfl
structure St41 where
 I_ : List Int
 F_ : List Int
 W_ : Int
 C_ : Int
 deriving Inhabited, DecidableEq
def encSt41 (x : St41) : List SV := [lsv (encI .u8) 1 x.I_, lsv (encI .u8) 1 x.F_, .int .i64 x.W_, .int .i64 x.C_]
theorem encSt41_len (x : St41) : (encSt41 x).length = 4 := rfl
structure St73 where
 a0_ : Int
 a1_ : Int
 deriving Inhabited, DecidableEq
def encSt73 (x : St73) : List SV := [.int .i64 x.a0_, .int .i64 x.a1_]
theorem encSt73_len (x : St73) : (encSt73 x).length = 2 := rfl
structure St71 where
 Op_ : Int
 Mod_ : Int
 Not_ : Bool
 R_ : List St73
 deriving Inhabited, DecidableEq
def encSt71 (x : St71) : List SV := [.int .u8 x.Op_, .int .i64 x.Mod_, .bool x.Not_, lsv encSt73 2 x.R_]
theorem encSt71_len (x : St71) : (encSt71 x).length = 4 := rfl
structure St36 where
 Cat_ : Int
 C_ : List (List St71)
 deriving Inhabited, DecidableEq
def encSt36 (x : St36) : List SV := [.int .i64 x.Cat_, lsv (encL encSt71 4) 1 x.C_]
theorem encSt36_len (x : St36) : (encSt36 x).length = 2 := rfl
structure St48 where
 a0_ : List UInt8
 a1_ : List UInt8
 a2_ : List UInt8
 a3_ : List UInt8
 a4_ : List UInt8
 a5_ : List UInt8
 deriving Inhabited, DecidableEq
def encSt48 (x : St48) : List SV := [.str x.a0_, .str x.a1_, .str x.a2_, .str x.a3_, .str x.a4_, .str x.a5_]
theorem encSt48_len (x : St48) : (encSt48 x).length = 6 := rfl
def plur_names  : Option (St48) :=
 (some (⟨([111, 116, 104, 101, 114] : List UInt8), ([122, 101, 114, 111] : List UInt8), ([111, 110, 101] : List UInt8), ([116, 119, 111] : List UInt8), ([102, 101, 119] : List UInt8), ([109, 97, 110, 121] : List UInt8)⟩ : St48))
theorem plur_names_ok  {r : St48} (h : plur_names = some r) : SC Tryd.prog 17 [] [] (.agg (encSt48 r)) [] := by
 refine kFn (fn := Tryd.f17) (fun F hFn hFH hFD => ?_)
 unfold plur_names at h
 refine kSR ?_
 refine kC 1 [0] ?_
 refine kEN ?_
 refine kSR ?_
 refine kC 2 [0] ?_
 refine kEN ?_
 refine kX ?_
 obtain rfl := oi h
 exact kZ hFn hFH hFD
def plur_rises (x0 : Int) (x1 : Int) : Option (Bool) :=
 (Option.bind (bif (decide (x1 > x0)) then (Option.bind plur_names fun y15 => (some (decide (x1 < 6)))) else (some false)) fun (s7 : Bool) => (some s7))
theorem plur_rises_ok {x0 : Int} {x1 : Int} {r : Bool} (h : plur_rises x0 x1 = some r) : SC Tryd.prog 18 [.int .i64 x0, .int .i64 x1] [] (.bool r) [] := by
 refine kFn (fn := Tryd.f18) (fun F hFn hFH hFD => ?_)
 unfold plur_rises at h
 refine kSR ?_
 refine kC 1 [0,1,4] ?_
 refine kEN ?_
 obtain ⟨s7, hy9, h11⟩ := bindS h
 refine K.cutN (by kernel_rfl) (fun (s7 : Bool) => ([(4, .bool s7)], [])) s7 ?_ ?_
 ·refine kR ?_
  refine kC 4 [1,4,8] ?_
  refine RJ.caseB 8 (b := (decide (x1 > x0))) (by kernel_rfl) (fun hb12 => ?_) (fun hb12 => ?_)
  ·have h13 := condT hb12 hy9
   refine kC 1 [4,8,9] ?_
   obtain ⟨y15, hy16, h17⟩ := bindS h13
   refine RJ.call0 (d := (some 10)) (f := 17) (args := []) (v := .agg (encSt48 y15)) (tr2 := []) (by kernel_rfl) (by kernel_rfl) .nil (plur_names_ok hy16) (by kernel_rfl) ?_
   refine RJ.seg 4 [4] (L2 := [(4, .bool (decide (x1 < 6)))]) (H2 := []) (by kernel_rfl) ?_
   refine kE ?_
   obtain rfl := oi h17
   exact kN [4]
  ·have h14 := condF hb12 hy9
   refine kC 6 [4] ?_
   refine kE ?_
   obtain rfl := oi h14
   exact kN [4]
 ·refine kX ?_
  obtain rfl := oi h11
  exact kZ hFn hFH hFD
def rule_reader__word_1 (x0 : Int) : Option (Bool) :=
 (Option.bind (bif (decide (97 ≤ x0)) then (bif (decide (x0 ≤ 122)) then (some true) else (bif (decide (65 ≤ x0)) then (some (decide (x0 ≤ 90))) else (some false))) else (bif (decide (65 ≤ x0)) then (some (decide (x0 ≤ 90))) else (some false))) fun (s13 : Bool) => (some s13))
theorem rule_reader__word_1_ok {x0 : Int} {r : Bool} (h : rule_reader__word_1 x0 = some r) : SC Tryd.prog 55 [.int .u8 x0] [] (.bool r) [] := by
 refine kFn (fn := Tryd.f55) (fun F hFn hFH hFD => ?_)
 unfold rule_reader__word_1 at h
 refine kSR ?_
 refine kC 1 [0,2] ?_
 refine kEN ?_
 obtain ⟨s13, hy15, h17⟩ := bindS h
 refine K.cutN (by kernel_rfl) (fun (s13 : Bool) => ([(2, .bool s13)], [])) s13 ?_ ?_
 ·refine kR ?_
  refine kC 3 [0,2,5] ?_
  refine RJ.caseB 5 (b := (decide (97 ≤ x0))) (by kernel_rfl) (fun hb18 => ?_) (fun hb18 => ?_)
  ·have h19 := condT hb18 hy15
   refine kC 4 [0,2,9] ?_
   refine RJ.caseB 9 (b := (decide (x0 ≤ 122))) (by kernel_rfl) (fun hb21 => ?_) (fun hb21 => ?_)
   ·have h22 := condT hb21 h19
    refine RJ.seg 8 [2] (L2 := [(2, .bool true)]) (H2 := []) (by kernel_rfl) ?_
    refine kE ?_
    obtain rfl := oi h22
    exact kN [2]
   ·have h23 := condF hb21 h19
    refine RJ.seg 3 [0, 2, 9, 12] (L2 := [(0, .int .u8 x0), (2, .bool false), (9, .bool false), (12, .bool (decide (65 ≤ x0)))]) (H2 := []) (by kernel_rfl) ?_
    refine RJ.caseB 12 (b := (decide (65 ≤ x0))) (by kernel_rfl) (fun hb24 => ?_) (fun hb24 => ?_)
    ·have h25 := condT hb24 h23
     refine kC 5 [2] ?_
     refine kE ?_
     obtain rfl := oi h25
     exact kN [2]
    ·have h26 := condF hb24 h23
     refine kC 5 [2] ?_
     refine kE ?_
     obtain rfl := oi h26
     exact kN [2]
  ·have h20 := condF hb18 hy15
   refine kC 7 [0,2,9,12] ?_
   refine RJ.caseB 12 (b := (decide (65 ≤ x0))) (by kernel_rfl) (fun hb27 => ?_) (fun hb27 => ?_)
   ·have h28 := condT hb27 h20
    refine RJ.seg 5 [2] (L2 := [(2, .bool (decide (x0 ≤ 90)))]) (H2 := []) (by kernel_rfl) ?_
    refine kE ?_
    obtain rfl := oi h28
    exact kN [2]
   ·have h29 := condF hb27 h20
    refine RJ.seg 5 [2] (L2 := [(2, .bool false)]) (H2 := []) (by kernel_rfl) ?_
    refine kE ?_
    obtain rfl := oi h29
    exact kN [2]
 ·refine kX ?_
  obtain rfl := oi h17
  exact kZ hFn hFH hFD
def rule_reader__run_s0 (x0 : List UInt8) (x1 : Int) : Option ((List UInt8) × Int) :=
 (Option.bind (loopN (fun (s138 : Int) => (Option.bind (Option.bind (bif (decide (s138 < (x0.length : Int))) then (bif inR s138 x0.length then (some ((decide (((((x0.getD (s138 : Int).toNat 0).toNat : Nat) : Int)) = 32)))) else none) else (some false)) fun (s255 : Bool) => (bif s255 then (some (.inl ())) else (some (.inr (.inr s138))))) (joinX fun (s246 : Unit) => (some (.inl (IntKind.wrap .i64 (s138 + 1))))))) big x1) fun (s133 : Int) => (Option.bind (loopN (fun (s443 : Int) => (Option.bind (Option.bind (bif (decide (s443 < (x0.length : Int))) then (bif inR s443 x0.length then (Option.bind (rule_reader__word_1 ((((x0.getD (s443 : Int).toNat 0).toNat : Nat) : Int))) fun y602 => (some y602)) else none) else (some false)) fun (s593 : Bool) => (bif s593 then (some (.inl ())) else (some (.inr (.inr s443))))) (joinX fun (s581 : Unit) => (some (.inl (IntKind.wrap .i64 (s443 + 1))))))) big s133) fun (s438 : Int) => (bif inS s133 s438 x0.length then (some ((cut x0 s133 s438), s133)) else none)))
theorem rule_reader__run_s0_ok {x0 : List UInt8} {x1 : Int} {r : (List UInt8) × Int} (h : rule_reader__run_s0 x0 x1 = some r) : SC Tryd.prog 54 [.ptr 0 0, .fn (.func 55) [] []] [.box [.str x0, .int .i64 x1]] (.str r.1) [.box [.str x0, .int .i64 r.2]] := by
 refine kFn (fn := Tryd.f54) (fun F hFn hFH hFD => ?_)
 unfold rule_reader__run_s0 at h
 refine kSR ?_
 refine kC 1 [0,1,4] ?_
 refine kEN ?_
 obtain ⟨s133, hy135, h137⟩ := bindS h
 refine K.cutN (by kernel_rfl) (fun (s133 : Int) => ([(0, .ptr 0 0), (1, .fn (.func 55) [] []), (4, .str ([] : List UInt8))], [.box [.str x0, .int .i64 s133]])) s133 ?_ ?_
 ·refine K.block 0 (by kernel_rfl) ?_
  refine K.loop (by kernel_rfl) (fun (s138 : Int) => ([(0, .ptr 0 0), (1, .fn (.func 55) [] []), (4, .str ([] : List UInt8))], [.box [.str x0, .int .i64 s138]])) hy135 [0, 1, 4] (by kernel_rfl) (by kernel_rfl) (fun s138 x226 hs225 => ?_)
  obtain ⟨y247, hy248, h249⟩ := bindS hs225
  refine K.cutX (by kernel_rfl) (fun (s246 : Unit) => ([(0, .ptr 0 0), (1, .fn (.func 55) [] []), (4, .str ([] : List UInt8))], [.box [.str x0, .int .i64 s138]])) y247 ?_ (fun s246 hs => ?_)
  ·obtain ⟨s255, hy257, h259⟩ := bindS hy248
   refine K.cutN (by kernel_rfl) (fun (s255 : Bool) => ([(0, .ptr 0 0), (1, .fn (.func 55) [] []), (4, .str ([] : List UInt8)), (27, .bool s255)], [.box [.str x0, .int .i64 s138]])) s255 ?_ ?_
   ·refine J.keep [0, 1, 4] (L2 := [(0, .ptr 0 0), (1, .fn (.func 55) [] []), (4, .str ([] : List UInt8))]) (by kernel_rfl) ?_
    refine K.draw (by kernel_rfl) (by kernel_rfl) (by kernel_rfl) (H2 := [.box [.str x0, .int .i64 s138]]) (by kernel_rfl) (n := 1) (by kernel_rfl) ?_
    refine kD 11 ?_
    refine RJ.caseB 16 (b := (decide (s138 < (x0.length : Int)))) (by kernel_rfl) (fun hb260 => ?_) (fun hb260 => ?_)
    ·have h261 := condT hb260 hy257
     refine kD 8 ?_
     obtain ⟨hm, h263⟩ := asrt h261
     refine RJ.rel (d := (some 25)) (ef := ⟨.int .u8 (((x0.getD (s138 : Int).toNat 0).toNat : Nat) : Int), [], []⟩) (ef' := ⟨.int .u8 (((x0.getD (s138 : Int).toNat 0).toNat : Nat) : Int), [], []⟩) (c := inR s138 x0.length) (tr2 := [([], []), ([], []), ([], []), ([0, 1], []), ([], []), ([], []), ([], []), ([0, 1], []), ([], []), ([], []), ([], []), ([], []), ([], []), ([], []), ([0, 1], []), ([], []), ([], []), ([], []), ([0, 1], []), ([], [])]) (H2 := [.box [.str x0, .int .i64 s138]]) (by kernel_rfl) hm (fun hc => rfl) (by kernel_rfl) ?_
     refine kD 2 ?_
     refine kE ?_
     obtain rfl := oi h263
     exact kN [0, 1, 4, 27]
    ·have h262 := condF hb260 hy257
     refine kD 11 ?_
     refine kE ?_
     obtain rfl := oi h262
     exact kN [0, 1, 4, 27]
   ·refine J.caseB 27 (b := s255) (by kernel_rfl) (fun hb264 => ?_) (fun hb264 => ?_)
    ·have h265 := condT hb264 h259
     refine kT ?_
     refine kK ?_
     obtain rfl := oi h265
     exact PJ.cutXl [0, 1, 4] (by kernel_rfl) (by kernel_rfl)
    ·have h266 := condF hb264 h259
     refine kF ?_
     refine K.exit 0 (by kernel_rfl) ?_
     obtain rfl := oi h266
     have h267 := joinX_inr h249
     refine PJ.cutXr (fun e => nomatch e) ?_
     obtain rfl := oi h267
     refine PJ.loopOut (fun e => nomatch e) (fun he269 => ?_)
     have h268 := congrArg some he269
     refine PJ.blockOut ?_
     obtain rfl := oi h268
     exact kN [0, 1, 4]
  ·subst hs
   have h250 := joinX_inl h249
   refine K.block 1 (by kernel_rfl) ?_
   refine kR ?_
   refine kC 8 [0,1,4] ?_
   refine kE ?_
   refine PJ.blockNormal ?_
   obtain rfl := oi h250
   exact PJ.loopNext [0, 1, 4] (by kernel_rfl) (by kernel_rfl)
 ·refine kSR ?_
  refine kC 5 [0,1,4,5] ?_
  refine kEN ?_
  obtain ⟨s438, hy440, h442⟩ := bindS h137
  refine K.cutN (by kernel_rfl) (fun (s438 : Int) => ([(0, .ptr 0 0), (4, .str ([] : List UInt8)), (5, .int .i64 s438)], [.box [.str x0, .int .i64 s133]])) s438 ?_ ?_
  ·refine K.block 2 (by kernel_rfl) ?_
   refine K.loop (by kernel_rfl) (fun (s443 : Int) => ([(0, .ptr 0 0), (1, .fn (.func 55) [] []), (4, .str ([] : List UInt8)), (5, .int .i64 s443)], [.box [.str x0, .int .i64 s133]])) hy440 [0, 1, 4, 5] (by kernel_rfl) (by kernel_rfl) (fun s443 x555 hs554 => ?_)
   obtain ⟨y582, hy583, h584⟩ := bindS hs554
   refine K.cutX (by kernel_rfl) (fun (s581 : Unit) => ([(0, .ptr 0 0), (1, .fn (.func 55) [] []), (4, .str ([] : List UInt8)), (5, .int .i64 s443)], [.box [.str x0, .int .i64 s133]])) y582 ?_ (fun s581 hs => ?_)
   ·obtain ⟨s593, hy595, h597⟩ := bindS hy583
    refine K.cutN (by kernel_rfl) (fun (s593 : Bool) => ([(0, .ptr 0 0), (1, .fn (.func 55) [] []), (4, .str ([] : List UInt8)), (5, .int .i64 s443), (55, .bool s593)], [.box [.str x0, .int .i64 s133]])) s593 ?_ ?_
    ·refine kR ?_
     refine kC 8 [0,1,4,5,46] ?_
     refine RJ.caseB 46 (b := (decide (s443 < (x0.length : Int)))) (by kernel_rfl) (fun hb598 => ?_) (fun hb598 => ?_)
     ·have h599 := condT hb598 hy595
      refine kC 6 [0,1,4,5,46,47,51,52] ?_
      obtain ⟨hm, h601⟩ := asrt h599
      refine RJ.rel (d := (some 53)) (ef := ⟨.int .u8 (((x0.getD (s443 : Int).toNat 0).toNat : Nat) : Int), [], []⟩) (ef' := ⟨.int .u8 (((x0.getD (s443 : Int).toNat 0).toNat : Nat) : Int), [], []⟩) (c := inR s443 x0.length) (tr2 := []) (H2 := [.box [.str x0, .int .i64 s133]]) (by kernel_rfl) hm (fun hc => rfl) (by kernel_rfl) ?_
      obtain ⟨y602, hy603, h604⟩ := bindS h601
      refine RJ.call0 (d := (some 54)) (f := 55) (args := [.int .u8 ((((x0.getD (s443 : Int).toNat 0).toNat : Nat) : Int))]) (v := .bool y602) (tr2 := []) (by kernel_rfl) (by kernel_rfl) (.cons (Le.refl _) .nil) (rule_reader__word_1_ok hy603) (by kernel_rfl) ?_
      refine kC 1 [0,1,4,5,55] ?_
      refine kE ?_
      obtain rfl := oi h604
      exact kN [0, 1, 4, 5, 55]
     ·have h600 := condF hb598 hy595
      refine kC 9 [0,1,4,5,55] ?_
      refine kE ?_
      obtain rfl := oi h600
      exact kN [0, 1, 4, 5, 55]
    ·refine J.caseB 55 (b := s593) (by kernel_rfl) (fun hb605 => ?_) (fun hb605 => ?_)
     ·have h606 := condT hb605 h597
      refine kT ?_
      refine kK ?_
      obtain rfl := oi h606
      exact PJ.cutXl [0, 1, 4, 5] (by kernel_rfl) (by kernel_rfl)
     ·have h607 := condF hb605 h597
      refine kF ?_
      refine K.exit 2 (by kernel_rfl) ?_
      obtain rfl := oi h607
      have h608 := joinX_inr h584
      refine PJ.cutXr (fun e => nomatch e) ?_
      obtain rfl := oi h608
      refine PJ.loopOut (fun e => nomatch e) (fun he610 => ?_)
      have h609 := congrArg some he610
      refine PJ.blockOut ?_
      obtain rfl := oi h609
      exact kN [0, 4, 5]
   ·subst hs
    have h585 := joinX_inl h584
    refine K.block 3 (by kernel_rfl) ?_
    refine kR ?_
    refine kC 3 [0,1,4,5] ?_
    refine kE ?_
    refine PJ.blockNormal ?_
    obtain rfl := oi h585
    exact PJ.loopNext [0, 1, 4, 5] (by kernel_rfl) (by kernel_rfl)
  ·refine kS ?_
   refine J.keep [0, 4, 5] (L2 := [(0, .ptr 0 0), (4, .str ([] : List UInt8)), (5, .int .i64 s438)]) (by kernel_rfl) ?_
   refine K.draw (by kernel_rfl) (by kernel_rfl) (by kernel_rfl) (H2 := [.box [.str x0, .int .i64 s133]]) (by kernel_rfl) (n := 1) (by kernel_rfl) ?_
   refine kD 9 ?_
   obtain ⟨hm, h611⟩ := asrt h442
   refine RJ.rel (d := (some 67)) (ef := ⟨.str (cut x0 s133 s438), [], []⟩) (ef' := ⟨.str (cut x0 s133 s438), [], []⟩) (c := inS s133 s438 x0.length) (tr2 := [([], []), ([], []), ([], []), ([0, 1], []), ([], []), ([], []), ([], []), ([0, 1], []), ([], []), ([], [])]) (H2 := [.box [.str x0, .int .i64 s133]]) (by kernel_rfl) hm (fun hc => rfl) (by kernel_rfl) ?_
   refine kD 1 ?_
   refine kEN ?_
   refine kX ?_
   obtain rfl := oi h611
   exact K.retV (H0 := [.box [.str x0, .int .i64 x1]]) [0] (.inr rfl) hFn hFH hFD (by kernel_rfl) (v1 := .str (cut x0 s133 s438)) (by kernel_rfl) (by kernel_rfl) (by kernel_rfl) (by decide) (by kernel_rfl) (by kernel_rfl) (by kernel_rfl) (by kernel_rfl) (by kernel_rfl)
def rule_reader__word_s0 (x0 : List UInt8) (x1 : Int) : Option ((List UInt8) × Int) :=
 (Option.bind (rule_reader__run_s0 x0 x1) fun y1 => (some (y1.1, y1.2)))
theorem rule_reader__word_s0_ok {x0 : List UInt8} {x1 : Int} {r : (List UInt8) × Int} (h : rule_reader__word_s0 x0 x1 = some r) : SC Tryd.prog 42 [.ptr 0 0] [.box [.str x0, .int .i64 x1]] (.str r.1) [.box [.str x0, .int .i64 r.2]] := by
 refine kFn (fn := Tryd.f42) (fun F hFn hFH hFD => ?_)
 unfold rule_reader__word_s0 at h
 refine kSR ?_
 refine kC 1 [0,2] ?_
 refine kEN ?_
 refine kSR ?_
 refine kC 1 [2,3] ?_
 obtain ⟨y1, hy2, h3⟩ := bindS h
 refine RJ.callG (d := (some 4)) (f := 54) (args := [.ptr 0 0, .fn (.func 55) [] []]) (args0 := [.ptr 0 0, .fn (.func 55) [] []]) (v0 := .str y1.1) (v := .str y1.1) (tr2 := []) (H0 := [.box [.str x0, .int .i64 x1]]) (H0' := [.box [.str x0, .int .i64 y1.2]]) (H2 := [.box [.str x0, .int .i64 y1.2]]) [0] (by kernel_rfl) (by kernel_rfl) (by kernel_rfl) (by kernel_rfl) (by decide) (by kernel_rfl) (by kernel_rfl) (by kernel_rfl) (.cons (Le.refl _) (.cons (Le.refl _) .nil)) (rule_reader__run_s0_ok hy2) (by kernel_rfl) (by kernel_rfl) (by kernel_rfl) ?_
 refine kC 1 [2] ?_
 refine kEN ?_
 refine kX ?_
 obtain rfl := oi h3
 exact K.retV (H0 := [.box [.str x0, .int .i64 x1]]) [0] (.inr rfl) hFn hFH hFD (by kernel_rfl) (v1 := .str y1.1) (by kernel_rfl) (by kernel_rfl) (by kernel_rfl) (by decide) (by kernel_rfl) (by kernel_rfl) (by kernel_rfl) (by kernel_rfl) (by kernel_rfl)
def idxRen : Go.Shelf.Ren := ⟨fun x => match x with | 217 => 99 | 266 => 109 | n => n, fun x => x, fun x => x⟩
theorem idx_lays : Lays.n217 Tryd.prog idxRen := by
 constructor <;> first | kernel_rfl | (intro w; kernel_rfl) | (intro w; rfl)
def stringslite_IndexByte (x0 : List UInt8) (x1 : Int) : Option (Int) :=
 (some (Lib.indexByte x0 x1.toNat.toUInt8))
theorem stringslite_IndexByte_ok {x0 : List UInt8} {x1 : Int} {r : Int} (h : stringslite_IndexByte x0 x1 = some r) : SC Tryd.prog 99 [.str x0, .int .u8 x1] [] (.int .i64 r) [] := by
 obtain rfl := oi h
 exact SC.byteIdx (by kernel_rfl) (fun b c w => Any.stringslite_IndexByte idx_lays b c w)
def stringslite_Index (x0 : List UInt8) (x1 : List UInt8) : Option (Int) :=
 (Option.bind (bif (decide ((x1.length : Int) = 0)) then (some true) else (some (x1 == x0))) fun (s4 : Bool) => (bif s4 then (some 0) else (bif (decide ((x1.length : Int) = 1)) then (bif inR 0 x1.length then (Option.bind (stringslite_IndexByte x0 ((((x1.getD (0 : Int).toNat 0).toNat : Nat) : Int))) fun y19 => (some y19)) else none) else (bif (decide ((x1.length : Int) ≥ (x0.length : Int))) then (some (-1)) else none))))
theorem stringslite_Index_ok {x0 : List UInt8} {x1 : List UInt8} {r : Int} (h : stringslite_Index x0 x1 = some r) : SC Tryd.prog 91 [.str x0, .str x1] [] (.int .i64 r) [] := by
 refine kFn (fn := Tryd.f91) (fun F hFn hFH hFD => ?_)
 unfold stringslite_Index at h
 refine kSR ?_
 refine kC 1 [0,1,4] ?_
 refine kEN ?_
 refine kSR ?_
 refine kC 3 [0,1,4,5] ?_
 refine kEN ?_
 refine kS ?_
 refine K.block 0 (by kernel_rfl) ?_
 obtain ⟨s4, hy6, h8⟩ := bindS h
 refine K.cutN (by kernel_rfl) (fun (s4 : Bool) => ([(0, .str x0), (1, .str x1), (4, .int .i64 0), (5, .int .i64 (x1.length : Int)), (16, .bool s4)], [])) s4 ?_ ?_
 ·refine kR ?_
  refine kC 3 [0,1,4,5,19] ?_
  refine RJ.caseB 19 (b := (decide ((x1.length : Int) = 0))) (by kernel_rfl) (fun hb9 => ?_) (fun hb9 => ?_)
  ·have h10 := condT hb9 hy6
   refine RJ.seg 5 [0, 1, 4, 5, 16] (L2 := [(0, .str x0), (1, .str x1), (4, .int .i64 0), (5, .int .i64 (x1.length : Int)), (16, .bool true)]) (H2 := []) (by kernel_rfl) ?_
   refine kE ?_
   obtain rfl := oi h10
   exact kN [0, 1, 4, 5, 16]
  ·have h11 := condF hb9 hy6
   refine RJ.seg 5 [0, 1, 4, 5, 16] (L2 := [(0, .str x0), (1, .str x1), (4, .int .i64 0), (5, .int .i64 (x1.length : Int)), (16, .bool (x1 == x0))]) (H2 := []) (by kernel_rfl) ?_
   refine kE ?_
   obtain rfl := oi h11
   exact kN [0, 1, 4, 5, 16]
 ·refine J.caseB 16 (b := s4) (by kernel_rfl) (fun hb12 => ?_) (fun hb12 => ?_)
  ·have h13 := condT hb12 h8
   refine kT ?_
   refine kSR ?_
   refine kC 1 [0,1,4,5] ?_
   refine kEN ?_
   refine kX ?_
   refine PJ.blockRet ?_
   refine PJ.passRet ?_
   obtain rfl := oi h13
   exact kZ hFn hFH hFD
  ·have h14 := condF hb12 h8
   refine kF ?_
   refine kSR ?_
   refine kC 3 [0,1,4,5,24] ?_
   refine kEN ?_
   refine J.caseB 24 (b := (decide ((x1.length : Int) = 1))) (by kernel_rfl) (fun hb15 => ?_) (fun hb15 => ?_)
   ·have h16 := condT hb15 h14
    refine kT ?_
    refine kSR ?_
    refine kC 2 [0,1,4,5,27,28] ?_
    obtain ⟨hm, h18⟩ := asrt h16
    refine RJ.rel (d := (some 29)) (ef := ⟨.int .u8 (((x1.getD (0 : Int).toNat 0).toNat : Nat) : Int), [], []⟩) (ef' := ⟨.int .u8 (((x1.getD (0 : Int).toNat 0).toNat : Nat) : Int), [], []⟩) (c := inR 0 x1.length) (tr2 := []) (H2 := []) (by kernel_rfl) hm (fun hc => rfl) (by kernel_rfl) ?_
    obtain ⟨y19, hy20, h21⟩ := bindS h18
    refine RJ.call0 (d := (some 30)) (f := 99) (args := [.str x0, .int .u8 ((((x1.getD (0 : Int).toNat 0).toNat : Nat) : Int))]) (v := .int .i64 y19) (tr2 := []) (by kernel_rfl) (by kernel_rfl) (.cons (Le.refl _) (.cons (Le.refl _) .nil)) (stringslite_IndexByte_ok hy20) (by kernel_rfl) ?_
    refine kC 1 [0,1,4,5] ?_
    refine kEN ?_
    refine kX ?_
    refine PJ.blockRet ?_
    refine PJ.passRet ?_
    obtain rfl := oi h21
    exact kZ hFn hFH hFD
   ·have h17 := condF hb15 h14
    refine kF ?_
    refine kSR ?_
    refine kC 5 [0,1,4,5,31] ?_
    refine kEN ?_
    refine J.caseB 31 (b := (decide ((x1.length : Int) ≥ (x0.length : Int)))) (by kernel_rfl) (fun hb22 => ?_) (fun hb22 => ?_)
    ·have h23 := condT hb22 h17
     refine kT ?_
     refine kSR ?_
     refine kC 1 [0,1,4,5] ?_
     refine kEN ?_
     refine kX ?_
     refine PJ.blockRet ?_
     refine PJ.passRet ?_
     obtain rfl := oi h23
     exact kZ hFn hFH hFD
    ·have h24 := condF hb22 h17
     refine kF ?_
     refine kSR ?_
     cases h24
def strings_Index (x0 : List UInt8) (x1 : List UInt8) : Option (Int) :=
 (Option.bind (stringslite_Index x0 x1) fun y1 => (some y1))
theorem strings_Index_ok {x0 : List UInt8} {x1 : List UInt8} {r : Int} (h : strings_Index x0 x1 = some r) : SC Tryd.prog 76 [.str x0, .str x1] [] (.int .i64 r) [] := by
 refine kFn (fn := Tryd.f76) (fun F hFn hFH hFD => ?_)
 unfold strings_Index at h
 refine kSR ?_
 refine kC 1 [0,1,4] ?_
 refine kEN ?_
 refine kSR ?_
 refine kC 2 [4,5,6] ?_
 obtain ⟨y1, hy2, h3⟩ := bindS h
 refine RJ.call0 (d := (some 7)) (f := 91) (args := [.str x0, .str x1]) (v := .int .i64 y1) (tr2 := []) (by kernel_rfl) (by kernel_rfl) (.cons (Le.refl _) (.cons (Le.refl _) .nil)) (stringslite_Index_ok hy2) (by kernel_rfl) ?_
 refine kC 1 [4] ?_
 refine kEN ?_
 refine kX ?_
 obtain rfl := oi h3
 exact kZ hFn hFH hFD
def strings_Contains (x0 : List UInt8) (x1 : List UInt8) : Option (Bool) :=
 (Option.bind (strings_Index x0 x1) fun y1 => (some (decide (y1 ≥ 0))))
theorem strings_Contains_ok {x0 : List UInt8} {x1 : List UInt8} {r : Bool} (h : strings_Contains x0 x1 = some r) : SC Tryd.prog 65 [.str x0, .str x1] [] (.bool r) [] := by
 refine kFn (fn := Tryd.f65) (fun F hFn hFH hFD => ?_)
 unfold strings_Contains at h
 refine kSR ?_
 refine kC 1 [0,1,4] ?_
 refine kEN ?_
 refine kSR ?_
 refine kC 2 [4,5,6] ?_
 obtain ⟨y1, hy2, h3⟩ := bindS h
 refine RJ.call0 (d := (some 7)) (f := 76) (args := [.str x0, .str x1]) (v := .int .i64 y1) (tr2 := []) (by kernel_rfl) (by kernel_rfl) (.cons (Le.refl _) (.cons (Le.refl _) .nil)) (strings_Index_ok hy2) (by kernel_rfl) ?_
 refine kC 2 [4] ?_
 refine kEN ?_
 refine kX ?_
 obtain rfl := oi h3
 exact kZ hFn hFH hFD
def rule_reader__operand_s0 (x0 : List UInt8) (x1 : Int) (x2 : Int) (x3 : Int) (x4 : Bool) : Option (Bool × Int × Int) :=
 (Option.bind (rule_reader__word_s0 x0 x1) fun y1 => (Option.bind (Option.bind (bif (decide (¬ (y1.1.length : Int) = 1)) then (some true) else (Option.bind (strings_Contains ([110, 105, 118, 119, 102, 116, 99, 101] : List UInt8) y1.1) fun y44 => (some (!y44)))) fun (s36 : Bool) => (bif s36 then (some (.inr (false, y1.2, x2))) else (some (.inl ())))) (joinX fun (s25 : Unit) => (bif inR 0 y1.1.length then (some (true, (IntKind.wrap .i64 (y1.2 + 1)), (((y1.1.getD (0 : Int).toNat 0).toNat : Nat) : Int))) else none))))
theorem rule_reader__operand_s0_ok {x0 : List UInt8} {x1 : Int} {x2 : Int} {x3 : Int} {x4 : Bool} {r : Bool × Int × Int} (h : rule_reader__operand_s0 x0 x1 x2 x3 x4 = some r) : SC Tryd.prog 50 [.ptr 0 0, .ptr 1 0] [.box [.str x0, .int .i64 x1], .box [.int .u8 x2, .int .i64 x3, .bool x4, .nl]] (.bool r.1) [.box [.str x0, .int .i64 r.2.1], .box [.int .u8 r.2.2, .int .i64 x3, .bool x4, .nl]] := by
 refine kFn (fn := Tryd.f50) (fun F hFn hFH hFD => ?_)
 unfold rule_reader__operand_s0 at h
 refine kSR ?_
 refine kC 1 [0,1,4] ?_
 refine kEN ?_
 refine kSR ?_
 refine kC 1 [0,1,4,6] ?_
 obtain ⟨y1, hy2, h3⟩ := bindS h
 refine RJ.callG (d := (some 7)) (f := 42) (args := [.ptr 0 0]) (args0 := [.ptr 0 0]) (v0 := .str y1.1) (v := .str y1.1) (tr2 := []) (H0 := [.box [.str x0, .int .i64 x1]]) (H0' := [.box [.str x0, .int .i64 y1.2]]) (H2 := [.box [.str x0, .int .i64 y1.2], .box [.int .u8 x2, .int .i64 x3, .bool x4, .nl]]) [0] (by kernel_rfl) (by kernel_rfl) (by kernel_rfl) (by kernel_rfl) (by decide) (by kernel_rfl) (by kernel_rfl) (by kernel_rfl) (.cons (Le.refl _) .nil) (rule_reader__word_s0_ok hy2) (by kernel_rfl) (by kernel_rfl) (by kernel_rfl) ?_
 refine kC 1 [0,1,4,5] ?_
 refine kEN ?_
 obtain ⟨y26, hy27, h28⟩ := bindS h3
 refine K.cutX (by kernel_rfl) (fun (s25 : Unit) => ([(0, .ptr 0 0), (1, .ptr 1 0), (4, .bool false), (5, .str y1.1)], [.box [.str x0, .int .i64 y1.2], .box [.int .u8 x2, .int .i64 x3, .bool x4, .nl]])) y26 ?_ (fun s25 hs => ?_)
 ·obtain ⟨s36, hy38, h40⟩ := bindS hy27
  refine K.cutN (by kernel_rfl) (fun (s36 : Bool) => ([(0, .ptr 0 0), (1, .ptr 1 0), (4, .bool false), (5, .str y1.1), (15, .bool s36)], [.box [.str x0, .int .i64 y1.2], .box [.int .u8 x2, .int .i64 x3, .bool x4, .nl]])) s36 ?_ ?_
  ·refine kR ?_
   refine RJ.seg 4 [0, 1, 4, 5, 11] (L2 := [(0, .ptr 0 0), (1, .ptr 1 0), (4, .bool false), (5, .str y1.1), (11, .bool ((decide (¬ (y1.1.length : Int) = 1))))]) (H2 := [.box [.str x0, .int .i64 y1.2], .box [.int .u8 x2, .int .i64 x3, .bool x4, .nl]]) (by kernel_rfl) ?_
   refine RJ.caseB 11 (b := (decide (¬ (y1.1.length : Int) = 1))) (by kernel_rfl) (fun hb41 => ?_) (fun hb41 => ?_)
   ·have h42 := condT hb41 hy38
    refine kC 4 [0,1,4,5,15] ?_
    refine kE ?_
    obtain rfl := oi h42
    exact kN [0, 1, 4, 5, 15]
   ·have h43 := condF hb41 hy38
    refine kC 1 [0,1,4,5,11,12] ?_
    obtain ⟨y44, hy45, h46⟩ := bindS h43
    refine RJ.call0 (d := (some 13)) (f := 65) (args := [.str ([110, 105, 118, 119, 102, 116, 99, 101] : List UInt8), .str y1.1]) (v := .bool y44) (tr2 := []) (by kernel_rfl) (by kernel_rfl) (.cons (Le.refl _) (.cons (Le.refl _) .nil)) (strings_Contains_ok hy45) (by kernel_rfl) ?_
    refine kC 2 [0,1,4,5,15] ?_
    refine kE ?_
    obtain rfl := oi h46
    exact kN [0, 1, 4, 5, 15]
  ·refine J.caseB 15 (b := s36) (by kernel_rfl) (fun hb47 => ?_) (fun hb47 => ?_)
   ·have h48 := condT hb47 h40
    refine kT ?_
    refine kSR ?_
    refine kC 1 [0,1,4,5] ?_
    refine kEN ?_
    refine kX ?_
    obtain rfl := oi h48
    have h50 := joinX_inr h28
    refine PJ.cutXr (fun e => nomatch e) ?_
    obtain rfl := oi h50
    exact K.retV (H0 := [.box [.str x0, .int .i64 x1], .box [.int .u8 x2, .int .i64 x3, .bool x4, .nl]]) [0, 1] (.inr rfl) hFn hFH hFD (by kernel_rfl) (v1 := .bool false) (by kernel_rfl) (by kernel_rfl) (by kernel_rfl) (by decide) (by kernel_rfl) (by kernel_rfl) (by kernel_rfl) (by kernel_rfl) (by kernel_rfl)
   ·have h49 := condF hb47 h40
    refine kF ?_
    refine kK ?_
    obtain rfl := oi h49
    exact PJ.cutXl [0, 1, 4, 5] (by kernel_rfl) (by kernel_rfl)
 ·subst hs
  have h29 := joinX_inl h28
  refine kSR ?_
  refine kC 2 [0,4,16,17] ?_
  obtain ⟨hm, h51⟩ := asrt h29
  refine RJ.rel (d := (some 18)) (ef := ⟨.int .u8 (((y1.1.getD (0 : Int).toNat 0).toNat : Nat) : Int), [], []⟩) (ef' := ⟨.int .u8 (((y1.1.getD (0 : Int).toNat 0).toNat : Nat) : Int), [], []⟩) (c := inR 0 y1.1.length) (tr2 := []) (H2 := [.box [.str x0, .int .i64 y1.2], .box [.int .u8 x2, .int .i64 x3, .bool x4, .nl]]) (by kernel_rfl) hm (fun hc => rfl) (by kernel_rfl) ?_
  refine kC 3 [0,4] ?_
  refine kEN ?_
  refine kSR ?_
  refine kC 8 [4] ?_
  refine kEN ?_
  refine kSR ?_
  refine RJ.seg 1 [4] (L2 := [(4, .bool true)]) (H2 := [.box [.str x0, .int .i64 (IntKind.wrap .i64 (y1.2 + 1))], .box [.int .u8 ((((y1.1.getD (0 : Int).toNat 0).toNat : Nat) : Int)), .int .i64 x3, .bool x4, .nl]]) (by kernel_rfl) ?_
  refine kEN ?_
  refine kX ?_
  obtain rfl := oi h51
  exact K.retV (H0 := [.box [.str x0, .int .i64 x1], .box [.int .u8 x2, .int .i64 x3, .bool x4, .nl]]) [0, 1] (.inr rfl) hFn hFH hFD (by kernel_rfl) (v1 := .bool true) (by kernel_rfl) (by kernel_rfl) (by kernel_rfl) (by decide) (by kernel_rfl) (by kernel_rfl) (by kernel_rfl) (by kernel_rfl) (by kernel_rfl)
def rule_reader__eat_1 (x0 : Int) : Option (Bool) :=
 (some false)
theorem rule_reader__eat_1_ok {x0 : Int} {r : Bool} (h : rule_reader__eat_1 x0 = some r) : SC Tryd.prog 77 [.int .u8 x0] [] (.bool r) [] := by
 refine kFn (fn := Tryd.f77) (fun F hFn hFH hFD => ?_)
 unfold rule_reader__eat_1 at h
 refine kSR ?_
 refine kC 1 [2] ?_
 refine kEN ?_
 refine kSR ?_
 refine kC 1 [2] ?_
 refine kEN ?_
 refine kX ?_
 obtain rfl := oi h
 exact kZ hFn hFH hFD
def rule_reader__run_s1 (x0 : List UInt8) (x1 : Int) : Option ((List UInt8) × Int) :=
 (Option.bind (loopN (fun (s138 : Int) => (Option.bind (Option.bind (bif (decide (s138 < (x0.length : Int))) then (bif inR s138 x0.length then (some ((decide (((((x0.getD (s138 : Int).toNat 0).toNat : Nat) : Int)) = 32)))) else none) else (some false)) fun (s255 : Bool) => (bif s255 then (some (.inl ())) else (some (.inr (.inr s138))))) (joinX fun (s246 : Unit) => (some (.inl (IntKind.wrap .i64 (s138 + 1))))))) big x1) fun (s133 : Int) => (Option.bind (loopN (fun (s443 : Int) => (Option.bind (Option.bind (bif (decide (s443 < (x0.length : Int))) then (bif inR s443 x0.length then (Option.bind (rule_reader__eat_1 ((((x0.getD (s443 : Int).toNat 0).toNat : Nat) : Int))) fun y602 => (some y602)) else none) else (some false)) fun (s593 : Bool) => (bif s593 then (some (.inl ())) else (some (.inr (.inr s443))))) (joinX fun (s581 : Unit) => (some (.inl (IntKind.wrap .i64 (s443 + 1))))))) big s133) fun (s438 : Int) => (bif inS s133 s438 x0.length then (some ((cut x0 s133 s438), s133)) else none)))
theorem rule_reader__run_s1_ok {x0 : List UInt8} {x1 : Int} {r : (List UInt8) × Int} (h : rule_reader__run_s1 x0 x1 = some r) : SC Tryd.prog 54 [.ptr 0 0, .fn (.func 77) [] []] [.box [.str x0, .int .i64 x1]] (.str r.1) [.box [.str x0, .int .i64 r.2]] := by
 refine kFn (fn := Tryd.f54) (fun F hFn hFH hFD => ?_)
 unfold rule_reader__run_s1 at h
 refine kSR ?_
 refine kC 1 [0,1,4] ?_
 refine kEN ?_
 obtain ⟨s133, hy135, h137⟩ := bindS h
 refine K.cutN (by kernel_rfl) (fun (s133 : Int) => ([(0, .ptr 0 0), (1, .fn (.func 77) [] []), (4, .str ([] : List UInt8))], [.box [.str x0, .int .i64 s133]])) s133 ?_ ?_
 ·refine K.block 0 (by kernel_rfl) ?_
  refine K.loop (by kernel_rfl) (fun (s138 : Int) => ([(0, .ptr 0 0), (1, .fn (.func 77) [] []), (4, .str ([] : List UInt8))], [.box [.str x0, .int .i64 s138]])) hy135 [0, 1, 4] (by kernel_rfl) (by kernel_rfl) (fun s138 x226 hs225 => ?_)
  obtain ⟨y247, hy248, h249⟩ := bindS hs225
  refine K.cutX (by kernel_rfl) (fun (s246 : Unit) => ([(0, .ptr 0 0), (1, .fn (.func 77) [] []), (4, .str ([] : List UInt8))], [.box [.str x0, .int .i64 s138]])) y247 ?_ (fun s246 hs => ?_)
  ·obtain ⟨s255, hy257, h259⟩ := bindS hy248
   refine K.cutN (by kernel_rfl) (fun (s255 : Bool) => ([(0, .ptr 0 0), (1, .fn (.func 77) [] []), (4, .str ([] : List UInt8)), (27, .bool s255)], [.box [.str x0, .int .i64 s138]])) s255 ?_ ?_
   ·refine J.keep [0, 1, 4] (L2 := [(0, .ptr 0 0), (1, .fn (.func 77) [] []), (4, .str ([] : List UInt8))]) (by kernel_rfl) ?_
    refine K.draw (by kernel_rfl) (by kernel_rfl) (by kernel_rfl) (H2 := [.box [.str x0, .int .i64 s138]]) (by kernel_rfl) (n := 1) (by kernel_rfl) ?_
    refine kD 11 ?_
    refine RJ.caseB 16 (b := (decide (s138 < (x0.length : Int)))) (by kernel_rfl) (fun hb260 => ?_) (fun hb260 => ?_)
    ·have h261 := condT hb260 hy257
     refine kD 8 ?_
     obtain ⟨hm, h263⟩ := asrt h261
     refine RJ.rel (d := (some 25)) (ef := ⟨.int .u8 (((x0.getD (s138 : Int).toNat 0).toNat : Nat) : Int), [], []⟩) (ef' := ⟨.int .u8 (((x0.getD (s138 : Int).toNat 0).toNat : Nat) : Int), [], []⟩) (c := inR s138 x0.length) (tr2 := [([], []), ([], []), ([], []), ([0, 1], []), ([], []), ([], []), ([], []), ([0, 1], []), ([], []), ([], []), ([], []), ([], []), ([], []), ([], []), ([0, 1], []), ([], []), ([], []), ([], []), ([0, 1], []), ([], [])]) (H2 := [.box [.str x0, .int .i64 s138]]) (by kernel_rfl) hm (fun hc => rfl) (by kernel_rfl) ?_
     refine kD 2 ?_
     refine kE ?_
     obtain rfl := oi h263
     exact kN [0, 1, 4, 27]
    ·have h262 := condF hb260 hy257
     refine kD 11 ?_
     refine kE ?_
     obtain rfl := oi h262
     exact kN [0, 1, 4, 27]
   ·refine J.caseB 27 (b := s255) (by kernel_rfl) (fun hb264 => ?_) (fun hb264 => ?_)
    ·have h265 := condT hb264 h259
     refine kT ?_
     refine kK ?_
     obtain rfl := oi h265
     exact PJ.cutXl [0, 1, 4] (by kernel_rfl) (by kernel_rfl)
    ·have h266 := condF hb264 h259
     refine kF ?_
     refine K.exit 0 (by kernel_rfl) ?_
     obtain rfl := oi h266
     have h267 := joinX_inr h249
     refine PJ.cutXr (fun e => nomatch e) ?_
     obtain rfl := oi h267
     refine PJ.loopOut (fun e => nomatch e) (fun he269 => ?_)
     have h268 := congrArg some he269
     refine PJ.blockOut ?_
     obtain rfl := oi h268
     exact kN [0, 1, 4]
  ·subst hs
   have h250 := joinX_inl h249
   refine K.block 1 (by kernel_rfl) ?_
   refine kR ?_
   refine kC 8 [0,1,4] ?_
   refine kE ?_
   refine PJ.blockNormal ?_
   obtain rfl := oi h250
   exact PJ.loopNext [0, 1, 4] (by kernel_rfl) (by kernel_rfl)
 ·refine kSR ?_
  refine kC 5 [0,1,4,5] ?_
  refine kEN ?_
  obtain ⟨s438, hy440, h442⟩ := bindS h137
  refine K.cutN (by kernel_rfl) (fun (s438 : Int) => ([(0, .ptr 0 0), (4, .str ([] : List UInt8)), (5, .int .i64 s438)], [.box [.str x0, .int .i64 s133]])) s438 ?_ ?_
  ·refine K.block 2 (by kernel_rfl) ?_
   refine K.loop (by kernel_rfl) (fun (s443 : Int) => ([(0, .ptr 0 0), (1, .fn (.func 77) [] []), (4, .str ([] : List UInt8)), (5, .int .i64 s443)], [.box [.str x0, .int .i64 s133]])) hy440 [0, 1, 4, 5] (by kernel_rfl) (by kernel_rfl) (fun s443 x555 hs554 => ?_)
   obtain ⟨y582, hy583, h584⟩ := bindS hs554
   refine K.cutX (by kernel_rfl) (fun (s581 : Unit) => ([(0, .ptr 0 0), (1, .fn (.func 77) [] []), (4, .str ([] : List UInt8)), (5, .int .i64 s443)], [.box [.str x0, .int .i64 s133]])) y582 ?_ (fun s581 hs => ?_)
   ·obtain ⟨s593, hy595, h597⟩ := bindS hy583
    refine K.cutN (by kernel_rfl) (fun (s593 : Bool) => ([(0, .ptr 0 0), (1, .fn (.func 77) [] []), (4, .str ([] : List UInt8)), (5, .int .i64 s443), (55, .bool s593)], [.box [.str x0, .int .i64 s133]])) s593 ?_ ?_
    ·refine kR ?_
     refine kC 8 [0,1,4,5,46] ?_
     refine RJ.caseB 46 (b := (decide (s443 < (x0.length : Int)))) (by kernel_rfl) (fun hb598 => ?_) (fun hb598 => ?_)
     ·have h599 := condT hb598 hy595
      refine kC 6 [0,1,4,5,46,47,51,52] ?_
      obtain ⟨hm, h601⟩ := asrt h599
      refine RJ.rel (d := (some 53)) (ef := ⟨.int .u8 (((x0.getD (s443 : Int).toNat 0).toNat : Nat) : Int), [], []⟩) (ef' := ⟨.int .u8 (((x0.getD (s443 : Int).toNat 0).toNat : Nat) : Int), [], []⟩) (c := inR s443 x0.length) (tr2 := []) (H2 := [.box [.str x0, .int .i64 s133]]) (by kernel_rfl) hm (fun hc => rfl) (by kernel_rfl) ?_
      obtain ⟨y602, hy603, h604⟩ := bindS h601
      refine RJ.call0 (d := (some 54)) (f := 77) (args := [.int .u8 ((((x0.getD (s443 : Int).toNat 0).toNat : Nat) : Int))]) (v := .bool y602) (tr2 := []) (by kernel_rfl) (by kernel_rfl) (.cons (Le.refl _) .nil) (rule_reader__eat_1_ok hy603) (by kernel_rfl) ?_
      refine kC 1 [0,1,4,5,55] ?_
      refine kE ?_
      obtain rfl := oi h604
      exact kN [0, 1, 4, 5, 55]
     ·have h600 := condF hb598 hy595
      refine kC 9 [0,1,4,5,55] ?_
      refine kE ?_
      obtain rfl := oi h600
      exact kN [0, 1, 4, 5, 55]
    ·refine J.caseB 55 (b := s593) (by kernel_rfl) (fun hb605 => ?_) (fun hb605 => ?_)
     ·have h606 := condT hb605 h597
      refine kT ?_
      refine kK ?_
      obtain rfl := oi h606
      exact PJ.cutXl [0, 1, 4, 5] (by kernel_rfl) (by kernel_rfl)
     ·have h607 := condF hb605 h597
      refine kF ?_
      refine K.exit 2 (by kernel_rfl) ?_
      obtain rfl := oi h607
      have h608 := joinX_inr h584
      refine PJ.cutXr (fun e => nomatch e) ?_
      obtain rfl := oi h608
      refine PJ.loopOut (fun e => nomatch e) (fun he610 => ?_)
      have h609 := congrArg some he610
      refine PJ.blockOut ?_
      obtain rfl := oi h609
      exact kN [0, 4, 5]
   ·subst hs
    have h585 := joinX_inl h584
    refine K.block 3 (by kernel_rfl) ?_
    refine kR ?_
    refine kC 3 [0,1,4,5] ?_
    refine kE ?_
    refine PJ.blockNormal ?_
    obtain rfl := oi h585
    exact PJ.loopNext [0, 1, 4, 5] (by kernel_rfl) (by kernel_rfl)
  ·refine kS ?_
   refine J.keep [0, 4, 5] (L2 := [(0, .ptr 0 0), (4, .str ([] : List UInt8)), (5, .int .i64 s438)]) (by kernel_rfl) ?_
   refine K.draw (by kernel_rfl) (by kernel_rfl) (by kernel_rfl) (H2 := [.box [.str x0, .int .i64 s133]]) (by kernel_rfl) (n := 1) (by kernel_rfl) ?_
   refine kD 9 ?_
   obtain ⟨hm, h611⟩ := asrt h442
   refine RJ.rel (d := (some 67)) (ef := ⟨.str (cut x0 s133 s438), [], []⟩) (ef' := ⟨.str (cut x0 s133 s438), [], []⟩) (c := inS s133 s438 x0.length) (tr2 := [([], []), ([], []), ([], []), ([0, 1], []), ([], []), ([], []), ([], []), ([0, 1], []), ([], []), ([], [])]) (H2 := [.box [.str x0, .int .i64 s133]]) (by kernel_rfl) hm (fun hc => rfl) (by kernel_rfl) ?_
   refine kD 1 ?_
   refine kEN ?_
   refine kX ?_
   obtain rfl := oi h611
   exact K.retV (H0 := [.box [.str x0, .int .i64 x1]]) [0] (.inr rfl) hFn hFH hFD (by kernel_rfl) (v1 := .str (cut x0 s133 s438)) (by kernel_rfl) (by kernel_rfl) (by kernel_rfl) (by decide) (by kernel_rfl) (by kernel_rfl) (by kernel_rfl) (by kernel_rfl) (by kernel_rfl)
def stringslite_HasPrefix (x0 : List UInt8) (x1 : List UInt8) : Option (Bool) :=
 (Option.bind (bif (decide ((x0.length : Int) ≥ (x1.length : Int))) then (bif inS 0 (x1.length : Int) x0.length then (some (((cut x0 0 (x1.length : Int)) == x1))) else none) else (some false)) fun (s5 : Bool) => (some s5))
theorem stringslite_HasPrefix_ok {x0 : List UInt8} {x1 : List UInt8} {r : Bool} (h : stringslite_HasPrefix x0 x1 = some r) : SC Tryd.prog 92 [.str x0, .str x1] [] (.bool r) [] := by
 refine kFn (fn := Tryd.f92) (fun F hFn hFH hFD => ?_)
 unfold stringslite_HasPrefix at h
 refine kSR ?_
 refine kC 1 [0,1,4] ?_
 refine kEN ?_
 obtain ⟨s5, hy7, h9⟩ := bindS h
 refine K.cutN (by kernel_rfl) (fun (s5 : Bool) => ([(4, .bool s5)], [])) s5 ?_ ?_
 ·refine kR ?_
  refine kC 6 [0,1,4,10] ?_
  refine RJ.caseB 10 (b := (decide ((x0.length : Int) ≥ (x1.length : Int)))) (by kernel_rfl) (fun hb10 => ?_) (fun hb10 => ?_)
  ·have h11 := condT hb10 hy7
   refine kC 3 [1,4,10,11,13] ?_
   obtain ⟨hm, h13⟩ := asrt h11
   refine RJ.rel (d := (some 14)) (ef := ⟨.str (cut x0 0 (x1.length : Int)), [], []⟩) (ef' := ⟨.str (cut x0 0 (x1.length : Int)), [], []⟩) (c := inS 0 (x1.length : Int) x0.length) (tr2 := []) (H2 := []) (by kernel_rfl) hm (fun hc => rfl) (by kernel_rfl) ?_
   refine RJ.seg 4 [4] (L2 := [(4, .bool (((cut x0 0 (x1.length : Int)) == x1)))]) (H2 := []) (by kernel_rfl) ?_
   refine kE ?_
   obtain rfl := oi h13
   exact kN [4]
  ·have h12 := condF hb10 hy7
   refine kC 8 [4] ?_
   refine kE ?_
   obtain rfl := oi h12
   exact kN [4]
 ·refine kX ?_
  obtain rfl := oi h9
  exact kZ hFn hFH hFD
def strings_HasPrefix (x0 : List UInt8) (x1 : List UInt8) : Option (Bool) :=
 (Option.bind (stringslite_HasPrefix x0 x1) fun y1 => (some y1))
theorem strings_HasPrefix_ok {x0 : List UInt8} {x1 : List UInt8} {r : Bool} (h : strings_HasPrefix x0 x1 = some r) : SC Tryd.prog 78 [.str x0, .str x1] [] (.bool r) [] := by
 refine kFn (fn := Tryd.f78) (fun F hFn hFH hFD => ?_)
 unfold strings_HasPrefix at h
 refine kSR ?_
 refine kC 1 [0,1,4] ?_
 refine kEN ?_
 refine kSR ?_
 refine kC 2 [4,5,6] ?_
 obtain ⟨y1, hy2, h3⟩ := bindS h
 refine RJ.call0 (d := (some 7)) (f := 92) (args := [.str x0, .str x1]) (v := .bool y1) (tr2 := []) (by kernel_rfl) (by kernel_rfl) (.cons (Le.refl _) (.cons (Le.refl _) .nil)) (stringslite_HasPrefix_ok hy2) (by kernel_rfl) ?_
 refine kC 1 [4] ?_
 refine kEN ?_
 refine kX ?_
 obtain rfl := oi h3
 exact kZ hFn hFH hFD
def rule_reader__eat_s0 (x0 : List UInt8) (x1 : List UInt8) (x2 : Int) : Option (Bool × Int) :=
 (Option.bind (rule_reader__run_s1 x1 x2) fun y1 => (bif inS y1.2 (x1.length : Int) x1.length then (Option.bind (strings_HasPrefix (cut x1 y1.2 (x1.length : Int)) x0) fun y5 => (bif (!y5) then (some (false, y1.2)) else (some (true, (IntKind.wrap .i64 (y1.2 + (x0.length : Int))))))) else none))
theorem rule_reader__eat_s0_ok {x0 : List UInt8} {x1 : List UInt8} {x2 : Int} {r : Bool × Int} (h : rule_reader__eat_s0 x0 x1 x2 = some r) : SC Tryd.prog 66 [.ptr 0 0, .str x0] [.box [.str x1, .int .i64 x2]] (.bool r.1) [.box [.str x1, .int .i64 r.2]] := by
 refine kFn (fn := Tryd.f66) (fun F hFn hFH hFD => ?_)
 unfold rule_reader__eat_s0 at h
 refine kSR ?_
 refine kC 1 [0,1,4] ?_
 refine kEN ?_
 refine kSR ?_
 refine kC 1 [0,1,4,5] ?_
 obtain ⟨y1, hy2, h3⟩ := bindS h
 refine RJ.callG (d := (some 6)) (f := 54) (args := [.ptr 0 0, .fn (.func 77) [] []]) (args0 := [.ptr 0 0, .fn (.func 77) [] []]) (v0 := .str y1.1) (v := .str y1.1) (tr2 := []) (H0 := [.box [.str x1, .int .i64 x2]]) (H0' := [.box [.str x1, .int .i64 y1.2]]) (H2 := [.box [.str x1, .int .i64 y1.2]]) [0] (by kernel_rfl) (by kernel_rfl) (by kernel_rfl) (by kernel_rfl) (by decide) (by kernel_rfl) (by kernel_rfl) (by kernel_rfl) (.cons (Le.refl _) (.cons (Le.refl _) .nil)) (rule_reader__run_s1_ok hy2) (by kernel_rfl) (by kernel_rfl) (by kernel_rfl) ?_
 refine kEN ?_
 refine kS ?_
 refine kS ?_
 refine J.keep [0, 1, 4] (L2 := [(0, .ptr 0 0), (1, .str x0), (4, .bool false)]) (by kernel_rfl) ?_
 refine K.draw (by kernel_rfl) (by kernel_rfl) (by kernel_rfl) (H2 := [.box [.str x1, .int .i64 y1.2], .res]) (by kernel_rfl) (n := 1) (by kernel_rfl) ?_
 refine kD 8 ?_
 obtain ⟨hm, h4⟩ := asrt h3
 refine RJ.rel (d := (some 15)) (ef := ⟨.str (cut x1 y1.2 (x1.length : Int)), [], []⟩) (ef' := ⟨.str (cut x1 y1.2 (x1.length : Int)), [], []⟩) (c := inS y1.2 (x1.length : Int) x1.length) (tr2 := [([], []), ([], []), ([], []), ([0, 1], []), ([], []), ([], []), ([], []), ([0, 1], []), ([], [])]) (H2 := [.box [.str x1, .int .i64 y1.2], .res]) (by kernel_rfl) hm (fun hc => rfl) (by kernel_rfl) ?_
 refine RJ.segD 1 (tr2 := [([], []), ([], []), ([], []), ([0, 1], []), ([], []), ([], []), ([], []), ([0, 1], []), ([], []), ([], [])]) (L2 := [(16, .str x0), (15, .str (cut x1 y1.2 (x1.length : Int))), (14, .int .i64 y1.2), (13, .ptr 0 1), (12, .ptr 0 0), (11, .ptr 0 0), (10, .str x1), (9, .ptr 0 0), (8, .ptr 0 0), (7, .ptr 0 0), (0, .ptr 0 0), (1, .str x0), (4, .bool false)]) (H2 := [.box [.str x1, .int .i64 y1.2], .res]) (by kernel_rfl) ?_
 obtain ⟨y5, hy6, h7⟩ := bindS h4
 refine RJ.call0 (d := (some 17)) (f := 78) (args := [.str (cut x1 y1.2 (x1.length : Int)), .str x0]) (v := .bool y5) (tr2 := [([], []), ([], []), ([], []), ([0, 1], []), ([], []), ([], []), ([], []), ([0, 1], []), ([], []), ([], []), ([], [2, 3])]) (by kernel_rfl) (by kernel_rfl) (.cons (Le.refl _) (.cons (Le.refl _) .nil)) (strings_HasPrefix_ok hy6) (by kernel_rfl) ?_
 refine kD 1 ?_
 refine kEN ?_
 refine J.caseB 18 (b := (!y5)) (by kernel_rfl) (fun hb8 => ?_) (fun hb8 => ?_)
 ·have h9 := condT hb8 h7
  refine kT ?_
  refine kSR ?_
  refine kC 1 [0,1,4] ?_
  refine kEN ?_
  refine kX ?_
  refine PJ.passRet ?_
  obtain rfl := oi h9
  exact K.retV (H0 := [.box [.str x1, .int .i64 x2]]) [0] (.inr rfl) hFn hFH hFD (by kernel_rfl) (v1 := .bool false) (by kernel_rfl) (by kernel_rfl) (by kernel_rfl) (by decide) (by kernel_rfl) (by kernel_rfl) (by kernel_rfl) (by kernel_rfl) (by kernel_rfl)
 ·have h10 := condF hb8 h7
  refine kF ?_
  refine kK ?_
  refine PJ.next ?_
  refine kSR ?_
  refine kC 10 [4] ?_
  refine kEN ?_
  refine kSR ?_
  refine kC 1 [4] ?_
  refine kEN ?_
  refine kX ?_
  obtain rfl := oi h10
  exact K.retV (H0 := [.box [.str x1, .int .i64 x2]]) [0] (.inr rfl) hFn hFH hFD (by kernel_rfl) (v1 := .bool true) (by kernel_rfl) (by kernel_rfl) (by kernel_rfl) (by decide) (by kernel_rfl) (by kernel_rfl) (by kernel_rfl) (by kernel_rfl) (by kernel_rfl)
def rule_reader__number_1 (x0 : Int) : Option (Bool) :=
 (Option.bind (bif (decide (48 ≤ x0)) then (some (decide (x0 ≤ 57))) else (some false)) fun (s4 : Bool) => (some s4))
theorem rule_reader__number_1_ok {x0 : Int} {r : Bool} (h : rule_reader__number_1 x0 = some r) : SC Tryd.prog 79 [.int .u8 x0] [] (.bool r) [] := by
 refine kFn (fn := Tryd.f79) (fun F hFn hFH hFD => ?_)
 unfold rule_reader__number_1 at h
 refine kSR ?_
 refine kC 1 [0,2] ?_
 refine kEN ?_
 obtain ⟨s4, hy6, h8⟩ := bindS h
 refine K.cutN (by kernel_rfl) (fun (s4 : Bool) => ([(2, .bool s4)], [])) s4 ?_ ?_
 ·refine kR ?_
  refine kC 3 [0,2,5] ?_
  refine RJ.caseB 5 (b := (decide (48 ≤ x0))) (by kernel_rfl) (fun hb9 => ?_) (fun hb9 => ?_)
  ·have h10 := condT hb9 hy6
   refine kC 4 [2] ?_
   refine kE ?_
   obtain rfl := oi h10
   exact kN [2]
  ·have h11 := condF hb9 hy6
   refine kC 4 [2] ?_
   refine kE ?_
   obtain rfl := oi h11
   exact kN [2]
 ·refine kX ?_
  obtain rfl := oi h8
  exact kZ hFn hFH hFD
def rule_reader__run_s2 (x0 : List UInt8) (x1 : Int) : Option ((List UInt8) × Int) :=
 (Option.bind (loopN (fun (s138 : Int) => (Option.bind (Option.bind (bif (decide (s138 < (x0.length : Int))) then (bif inR s138 x0.length then (some ((decide (((((x0.getD (s138 : Int).toNat 0).toNat : Nat) : Int)) = 32)))) else none) else (some false)) fun (s255 : Bool) => (bif s255 then (some (.inl ())) else (some (.inr (.inr s138))))) (joinX fun (s246 : Unit) => (some (.inl (IntKind.wrap .i64 (s138 + 1))))))) big x1) fun (s133 : Int) => (Option.bind (loopN (fun (s443 : Int) => (Option.bind (Option.bind (bif (decide (s443 < (x0.length : Int))) then (bif inR s443 x0.length then (Option.bind (rule_reader__number_1 ((((x0.getD (s443 : Int).toNat 0).toNat : Nat) : Int))) fun y602 => (some y602)) else none) else (some false)) fun (s593 : Bool) => (bif s593 then (some (.inl ())) else (some (.inr (.inr s443))))) (joinX fun (s581 : Unit) => (some (.inl (IntKind.wrap .i64 (s443 + 1))))))) big s133) fun (s438 : Int) => (bif inS s133 s438 x0.length then (some ((cut x0 s133 s438), s133)) else none)))
theorem rule_reader__run_s2_ok {x0 : List UInt8} {x1 : Int} {r : (List UInt8) × Int} (h : rule_reader__run_s2 x0 x1 = some r) : SC Tryd.prog 54 [.ptr 0 0, .fn (.func 79) [] []] [.box [.str x0, .int .i64 x1]] (.str r.1) [.box [.str x0, .int .i64 r.2]] := by
 refine kFn (fn := Tryd.f54) (fun F hFn hFH hFD => ?_)
 unfold rule_reader__run_s2 at h
 refine kSR ?_
 refine kC 1 [0,1,4] ?_
 refine kEN ?_
 obtain ⟨s133, hy135, h137⟩ := bindS h
 refine K.cutN (by kernel_rfl) (fun (s133 : Int) => ([(0, .ptr 0 0), (1, .fn (.func 79) [] []), (4, .str ([] : List UInt8))], [.box [.str x0, .int .i64 s133]])) s133 ?_ ?_
 ·refine K.block 0 (by kernel_rfl) ?_
  refine K.loop (by kernel_rfl) (fun (s138 : Int) => ([(0, .ptr 0 0), (1, .fn (.func 79) [] []), (4, .str ([] : List UInt8))], [.box [.str x0, .int .i64 s138]])) hy135 [0, 1, 4] (by kernel_rfl) (by kernel_rfl) (fun s138 x226 hs225 => ?_)
  obtain ⟨y247, hy248, h249⟩ := bindS hs225
  refine K.cutX (by kernel_rfl) (fun (s246 : Unit) => ([(0, .ptr 0 0), (1, .fn (.func 79) [] []), (4, .str ([] : List UInt8))], [.box [.str x0, .int .i64 s138]])) y247 ?_ (fun s246 hs => ?_)
  ·obtain ⟨s255, hy257, h259⟩ := bindS hy248
   refine K.cutN (by kernel_rfl) (fun (s255 : Bool) => ([(0, .ptr 0 0), (1, .fn (.func 79) [] []), (4, .str ([] : List UInt8)), (27, .bool s255)], [.box [.str x0, .int .i64 s138]])) s255 ?_ ?_
   ·refine J.keep [0, 1, 4] (L2 := [(0, .ptr 0 0), (1, .fn (.func 79) [] []), (4, .str ([] : List UInt8))]) (by kernel_rfl) ?_
    refine K.draw (by kernel_rfl) (by kernel_rfl) (by kernel_rfl) (H2 := [.box [.str x0, .int .i64 s138]]) (by kernel_rfl) (n := 1) (by kernel_rfl) ?_
    refine kD 11 ?_
    refine RJ.caseB 16 (b := (decide (s138 < (x0.length : Int)))) (by kernel_rfl) (fun hb260 => ?_) (fun hb260 => ?_)
    ·have h261 := condT hb260 hy257
     refine kD 8 ?_
     obtain ⟨hm, h263⟩ := asrt h261
     refine RJ.rel (d := (some 25)) (ef := ⟨.int .u8 (((x0.getD (s138 : Int).toNat 0).toNat : Nat) : Int), [], []⟩) (ef' := ⟨.int .u8 (((x0.getD (s138 : Int).toNat 0).toNat : Nat) : Int), [], []⟩) (c := inR s138 x0.length) (tr2 := [([], []), ([], []), ([], []), ([0, 1], []), ([], []), ([], []), ([], []), ([0, 1], []), ([], []), ([], []), ([], []), ([], []), ([], []), ([], []), ([0, 1], []), ([], []), ([], []), ([], []), ([0, 1], []), ([], [])]) (H2 := [.box [.str x0, .int .i64 s138]]) (by kernel_rfl) hm (fun hc => rfl) (by kernel_rfl) ?_
     refine kD 2 ?_
     refine kE ?_
     obtain rfl := oi h263
     exact kN [0, 1, 4, 27]
    ·have h262 := condF hb260 hy257
     refine kD 11 ?_
     refine kE ?_
     obtain rfl := oi h262
     exact kN [0, 1, 4, 27]
   ·refine J.caseB 27 (b := s255) (by kernel_rfl) (fun hb264 => ?_) (fun hb264 => ?_)
    ·have h265 := condT hb264 h259
     refine kT ?_
     refine kK ?_
     obtain rfl := oi h265
     exact PJ.cutXl [0, 1, 4] (by kernel_rfl) (by kernel_rfl)
    ·have h266 := condF hb264 h259
     refine kF ?_
     refine K.exit 0 (by kernel_rfl) ?_
     obtain rfl := oi h266
     have h267 := joinX_inr h249
     refine PJ.cutXr (fun e => nomatch e) ?_
     obtain rfl := oi h267
     refine PJ.loopOut (fun e => nomatch e) (fun he269 => ?_)
     have h268 := congrArg some he269
     refine PJ.blockOut ?_
     obtain rfl := oi h268
     exact kN [0, 1, 4]
  ·subst hs
   have h250 := joinX_inl h249
   refine K.block 1 (by kernel_rfl) ?_
   refine kR ?_
   refine kC 8 [0,1,4] ?_
   refine kE ?_
   refine PJ.blockNormal ?_
   obtain rfl := oi h250
   exact PJ.loopNext [0, 1, 4] (by kernel_rfl) (by kernel_rfl)
 ·refine kSR ?_
  refine kC 5 [0,1,4,5] ?_
  refine kEN ?_
  obtain ⟨s438, hy440, h442⟩ := bindS h137
  refine K.cutN (by kernel_rfl) (fun (s438 : Int) => ([(0, .ptr 0 0), (4, .str ([] : List UInt8)), (5, .int .i64 s438)], [.box [.str x0, .int .i64 s133]])) s438 ?_ ?_
  ·refine K.block 2 (by kernel_rfl) ?_
   refine K.loop (by kernel_rfl) (fun (s443 : Int) => ([(0, .ptr 0 0), (1, .fn (.func 79) [] []), (4, .str ([] : List UInt8)), (5, .int .i64 s443)], [.box [.str x0, .int .i64 s133]])) hy440 [0, 1, 4, 5] (by kernel_rfl) (by kernel_rfl) (fun s443 x555 hs554 => ?_)
   obtain ⟨y582, hy583, h584⟩ := bindS hs554
   refine K.cutX (by kernel_rfl) (fun (s581 : Unit) => ([(0, .ptr 0 0), (1, .fn (.func 79) [] []), (4, .str ([] : List UInt8)), (5, .int .i64 s443)], [.box [.str x0, .int .i64 s133]])) y582 ?_ (fun s581 hs => ?_)
   ·obtain ⟨s593, hy595, h597⟩ := bindS hy583
    refine K.cutN (by kernel_rfl) (fun (s593 : Bool) => ([(0, .ptr 0 0), (1, .fn (.func 79) [] []), (4, .str ([] : List UInt8)), (5, .int .i64 s443), (55, .bool s593)], [.box [.str x0, .int .i64 s133]])) s593 ?_ ?_
    ·refine kR ?_
     refine kC 8 [0,1,4,5,46] ?_
     refine RJ.caseB 46 (b := (decide (s443 < (x0.length : Int)))) (by kernel_rfl) (fun hb598 => ?_) (fun hb598 => ?_)
     ·have h599 := condT hb598 hy595
      refine kC 6 [0,1,4,5,46,47,51,52] ?_
      obtain ⟨hm, h601⟩ := asrt h599
      refine RJ.rel (d := (some 53)) (ef := ⟨.int .u8 (((x0.getD (s443 : Int).toNat 0).toNat : Nat) : Int), [], []⟩) (ef' := ⟨.int .u8 (((x0.getD (s443 : Int).toNat 0).toNat : Nat) : Int), [], []⟩) (c := inR s443 x0.length) (tr2 := []) (H2 := [.box [.str x0, .int .i64 s133]]) (by kernel_rfl) hm (fun hc => rfl) (by kernel_rfl) ?_
      obtain ⟨y602, hy603, h604⟩ := bindS h601
      refine RJ.call0 (d := (some 54)) (f := 79) (args := [.int .u8 ((((x0.getD (s443 : Int).toNat 0).toNat : Nat) : Int))]) (v := .bool y602) (tr2 := []) (by kernel_rfl) (by kernel_rfl) (.cons (Le.refl _) .nil) (rule_reader__number_1_ok hy603) (by kernel_rfl) ?_
      refine kC 1 [0,1,4,5,55] ?_
      refine kE ?_
      obtain rfl := oi h604
      exact kN [0, 1, 4, 5, 55]
     ·have h600 := condF hb598 hy595
      refine kC 9 [0,1,4,5,55] ?_
      refine kE ?_
      obtain rfl := oi h600
      exact kN [0, 1, 4, 5, 55]
    ·refine J.caseB 55 (b := s593) (by kernel_rfl) (fun hb605 => ?_) (fun hb605 => ?_)
     ·have h606 := condT hb605 h597
      refine kT ?_
      refine kK ?_
      obtain rfl := oi h606
      exact PJ.cutXl [0, 1, 4, 5] (by kernel_rfl) (by kernel_rfl)
     ·have h607 := condF hb605 h597
      refine kF ?_
      refine K.exit 2 (by kernel_rfl) ?_
      obtain rfl := oi h607
      have h608 := joinX_inr h584
      refine PJ.cutXr (fun e => nomatch e) ?_
      obtain rfl := oi h608
      refine PJ.loopOut (fun e => nomatch e) (fun he610 => ?_)
      have h609 := congrArg some he610
      refine PJ.blockOut ?_
      obtain rfl := oi h609
      exact kN [0, 4, 5]
   ·subst hs
    have h585 := joinX_inl h584
    refine K.block 3 (by kernel_rfl) ?_
    refine kR ?_
    refine kC 3 [0,1,4,5] ?_
    refine kE ?_
    refine PJ.blockNormal ?_
    obtain rfl := oi h585
    exact PJ.loopNext [0, 1, 4, 5] (by kernel_rfl) (by kernel_rfl)
  ·refine kS ?_
   refine J.keep [0, 4, 5] (L2 := [(0, .ptr 0 0), (4, .str ([] : List UInt8)), (5, .int .i64 s438)]) (by kernel_rfl) ?_
   refine K.draw (by kernel_rfl) (by kernel_rfl) (by kernel_rfl) (H2 := [.box [.str x0, .int .i64 s133]]) (by kernel_rfl) (n := 1) (by kernel_rfl) ?_
   refine kD 9 ?_
   obtain ⟨hm, h611⟩ := asrt h442
   refine RJ.rel (d := (some 67)) (ef := ⟨.str (cut x0 s133 s438), [], []⟩) (ef' := ⟨.str (cut x0 s133 s438), [], []⟩) (c := inS s133 s438 x0.length) (tr2 := [([], []), ([], []), ([], []), ([0, 1], []), ([], []), ([], []), ([], []), ([0, 1], []), ([], []), ([], [])]) (H2 := [.box [.str x0, .int .i64 s133]]) (by kernel_rfl) hm (fun hc => rfl) (by kernel_rfl) ?_
   refine kD 1 ?_
   refine kEN ?_
   refine kX ?_
   obtain rfl := oi h611
   exact K.retV (H0 := [.box [.str x0, .int .i64 x1]]) [0] (.inr rfl) hFn hFH hFD (by kernel_rfl) (v1 := .str (cut x0 s133 s438)) (by kernel_rfl) (by kernel_rfl) (by kernel_rfl) (by decide) (by kernel_rfl) (by kernel_rfl) (by kernel_rfl) (by kernel_rfl) (by kernel_rfl)
def rule_reader__number_s0 (x0 : Int) (x1 : List UInt8) (x2 : Int) : Option (Int × Bool × Int) :=
 (Option.bind (rule_reader__run_s2 x1 x2) fun y1 => (Option.bind (Option.bind (bif (decide ((y1.1.length : Int) = 0)) then (some true) else (bif (decide ((y1.1.length : Int) > 9)) then (some true) else (bif (decide ((y1.1.length : Int) > 1)) then (bif inR 0 y1.1.length then (some ((decide (((((y1.1.getD (0 : Int).toNat 0).toNat : Nat) : Int)) = 48)))) else none) else (some false)))) fun (s48 : Bool) => (bif s48 then (some (.inr (0, false, y1.2))) else (some (.inl ())))) (joinX fun (s33 : Unit) => (Option.bind (loopN (fun (s93 : Int × Int) => (bif (decide (s93.2 < ((bytesI y1.1).length : Int))) then (bif inR s93.2 (bytesI y1.1).length then (some (.inl ((IntKind.wrap .i64 ((IntKind.wrap .i64 (s93.1 * 10)) + ((IntKind.wrap .i64 ((IntKind.wrap .u8 ((nth (bytesI y1.1) s93.2) - 48))))))), (IntKind.wrap .i64 (s93.2 + 1))))) else none) else (some (.inr s93.1)))) big (0, 0)) fun (s88 : Int) => (bif (decide (s88 < x0)) then (some (0, false, y1.2)) else (some (s88, true, (IntKind.wrap .i64 (y1.2 + (y1.1.length : Int))))))))))
theorem rule_reader__number_s0_ok {x0 : Int} {x1 : List UInt8} {x2 : Int} {r : Int × Bool × Int} (h : rule_reader__number_s0 x0 x1 x2 = some r) : SC Tryd.prog 67 [.ptr 0 0, .int .i64 x0] [.box [.str x1, .int .i64 x2]] (.tup [.int .i64 r.1, .bool r.2.1]) [.box [.str x1, .int .i64 r.2.2]] := by
 refine kFn (fn := Tryd.f67) (fun F hFn hFH hFD => ?_)
 unfold rule_reader__number_s0 at h
 refine kSR ?_
 refine kC 2 [0,1,4,5] ?_
 refine kEN ?_
 refine kSR ?_
 refine kC 1 [0,1,4,5,10] ?_
 obtain ⟨y1, hy2, h3⟩ := bindS h
 refine RJ.callG (d := (some 11)) (f := 54) (args := [.ptr 0 0, .fn (.func 79) [] []]) (args0 := [.ptr 0 0, .fn (.func 79) [] []]) (v0 := .str y1.1) (v := .str y1.1) (tr2 := []) (H0 := [.box [.str x1, .int .i64 x2]]) (H0' := [.box [.str x1, .int .i64 y1.2]]) (H2 := [.box [.str x1, .int .i64 y1.2]]) [0] (by kernel_rfl) (by kernel_rfl) (by kernel_rfl) (by kernel_rfl) (by decide) (by kernel_rfl) (by kernel_rfl) (by kernel_rfl) (.cons (Le.refl _) (.cons (Le.refl _) .nil)) (rule_reader__run_s2_ok hy2) (by kernel_rfl) (by kernel_rfl) (by kernel_rfl) ?_
 refine kC 1 [0,1,4,5,6] ?_
 refine kEN ?_
 obtain ⟨y34, hy35, h36⟩ := bindS h3
 refine K.cutX (by kernel_rfl) (fun (s33 : Unit) => ([(0, .ptr 0 0), (1, .int .i64 x0), (4, .int .i64 0), (5, .bool false), (6, .str y1.1)], [.box [.str x1, .int .i64 y1.2]])) y34 ?_ (fun s33 hs => ?_)
 ·obtain ⟨s48, hy50, h52⟩ := bindS hy35
  refine K.cutN (by kernel_rfl) (fun (s48 : Bool) => ([(0, .ptr 0 0), (1, .int .i64 x0), (4, .int .i64 0), (5, .bool false), (6, .str y1.1), (29, .bool s48)], [.box [.str x1, .int .i64 y1.2]])) s48 ?_ ?_
  ·refine kR ?_
   refine RJ.seg 4 [0, 1, 4, 5, 6, 15] (L2 := [(0, .ptr 0 0), (1, .int .i64 x0), (4, .int .i64 0), (5, .bool false), (6, .str y1.1), (15, .bool ((decide ((y1.1.length : Int) = 0))))]) (H2 := [.box [.str x1, .int .i64 y1.2]]) (by kernel_rfl) ?_
   refine RJ.caseB 15 (b := (decide ((y1.1.length : Int) = 0))) (by kernel_rfl) (fun hb53 => ?_) (fun hb53 => ?_)
   ·have h54 := condT hb53 hy50
    refine kC 14 [0,1,4,5,6,29] ?_
    refine kE ?_
    obtain rfl := oi h54
    exact kN [0, 1, 4, 5, 6, 29]
   ·have h55 := condF hb53 hy50
    refine kC 5 [0,1,4,5,6,20] ?_
    refine RJ.caseB 20 (b := (decide ((y1.1.length : Int) > 9))) (by kernel_rfl) (fun hb56 => ?_) (fun hb56 => ?_)
    ·have h57 := condT hb56 h55
     refine kC 9 [0,1,4,5,6,29] ?_
     refine kE ?_
     obtain rfl := oi h57
     exact kN [0, 1, 4, 5, 6, 29]
    ·have h58 := condF hb56 h55
     refine kC 4 [0,1,4,5,6,20,24] ?_
     refine RJ.caseB 24 (b := (decide ((y1.1.length : Int) > 1))) (by kernel_rfl) (fun hb59 => ?_) (fun hb59 => ?_)
     ·have h60 := condT hb59 h58
      refine kC 1 [0,1,4,5,6,20,24,25] ?_
      obtain ⟨hm, h62⟩ := asrt h60
      refine RJ.rel (d := (some 26)) (ef := ⟨.int .u8 (((y1.1.getD (0 : Int).toNat 0).toNat : Nat) : Int), [], []⟩) (ef' := ⟨.int .u8 (((y1.1.getD (0 : Int).toNat 0).toNat : Nat) : Int), [], []⟩) (c := inR 0 y1.1.length) (tr2 := []) (H2 := [.box [.str x1, .int .i64 y1.2]]) (by kernel_rfl) hm (fun hc => rfl) (by kernel_rfl) ?_
      refine RJ.seg 3 [0, 1, 4, 5, 6, 29] (L2 := [(0, .ptr 0 0), (1, .int .i64 x0), (4, .int .i64 0), (5, .bool false), (6, .str y1.1), (29, .bool ((decide (((((y1.1.getD (0 : Int).toNat 0).toNat : Nat) : Int)) = 48))))]) (H2 := [.box [.str x1, .int .i64 y1.2]]) (by kernel_rfl) ?_
      refine kE ?_
      obtain rfl := oi h62
      exact kN [0, 1, 4, 5, 6, 29]
     ·have h61 := condF hb59 h58
      refine kC 5 [0,1,4,5,6,29] ?_
      refine kE ?_
      obtain rfl := oi h61
      exact kN [0, 1, 4, 5, 6, 29]
  ·refine J.caseB 29 (b := s48) (by kernel_rfl) (fun hb63 => ?_) (fun hb63 => ?_)
   ·have h64 := condT hb63 h52
    refine kT ?_
    refine kSR ?_
    refine kC 2 [0,1,4,5,6] ?_
    refine kEN ?_
    refine kX ?_
    obtain rfl := oi h64
    have h66 := joinX_inr h36
    refine PJ.cutXr (fun e => nomatch e) ?_
    obtain rfl := oi h66
    exact K.retV (H0 := [.box [.str x1, .int .i64 x2]]) [0] (.inr rfl) hFn hFH hFD (by kernel_rfl) (v1 := .tup [.int .i64 0, .bool false]) (by kernel_rfl) (by kernel_rfl) (by kernel_rfl) (by decide) (by kernel_rfl) (by kernel_rfl) (by kernel_rfl) (by kernel_rfl) (by kernel_rfl)
   ·have h65 := condF hb63 h52
    refine kF ?_
    refine kK ?_
    obtain rfl := oi h65
    exact PJ.cutXl [0, 1, 4, 5, 6] (by kernel_rfl) (by kernel_rfl)
 ·subst hs
  have h37 := joinX_inl h36
  refine kSR ?_
  refine kC 1 [0,1,4,5,6,7] ?_
  refine kEN ?_
  obtain ⟨s88, hy90, h92⟩ := bindS h37
  refine K.cutN (by kernel_rfl) (fun (s88 : Int) => ([(0, .ptr 0 0), (1, .int .i64 x0), (4, .int .i64 0), (5, .bool false), (6, .str y1.1), (7, .int .i64 s88)], [.box [.str x1, .int .i64 y1.2]])) s88 ?_ ?_
  ·refine kSR ?_
   refine kC 1 [0,1,4,5,6,7,30] ?_
   refine RJ.rel (d := (some 31)) (ef := ⟨.lst y1.1.length 1 (y1.1.map byteSV), [], []⟩) (ef' := ⟨lsv (encI .u8) 1 (bytesI y1.1), [], []⟩) (c := true) (tr2 := []) (H2 := [.box [.str x1, .int .i64 y1.2]]) (by kernel_rfl) rfl (fun hc => N.toBytes) (by kernel_rfl) ?_
   refine kC 2 [0,1,4,5,6,7,31,32,33] ?_
   refine kEN ?_
   refine K.block 0 (by kernel_rfl) ?_
   refine K.loop (by kernel_rfl) (fun (s93 : Int × Int) => ([(0, .ptr 0 0), (1, .int .i64 x0), (4, .int .i64 0), (5, .bool false), (6, .str y1.1), (7, .int .i64 s93.1), (31, lsv (encI .u8) 1 (bytesI y1.1)), (32, .int .i64 ((bytesI y1.1).length : Int)), (33, .int .i64 s93.2)], [.box [.str x1, .int .i64 y1.2]])) hy90 [0, 1, 4, 5, 6, 7, 31, 32, 33] (by kernel_rfl) (by kernel_rfl) (fun s93 x107 hs106 => ?_)
   refine kSR ?_
   refine kC 1 [0,1,4,5,6,7,31,32,33,34] ?_
   refine kEN ?_
   refine kS ?_
   refine J.caseB 34 (b := (decide (s93.2 < ((bytesI y1.1).length : Int)))) (by kernel_rfl) (fun hb108 => ?_) (fun hb108 => ?_)
   ·have h109 := condT hb108 hs106
    refine kT ?_
    refine kK ?_
    refine PJ.next ?_
    refine kS ?_
    refine K.block 1 (by kernel_rfl) ?_
    refine kSR ?_
    obtain ⟨hm, h111⟩ := asrt h109
    refine RJ.rel (d := (some 35)) (ef := ⟨.ep ((((bytesI y1.1).flatMap (encI .u8)).drop ((s93.2 : Int).toNat * 1)).take 1), [], []⟩) (ef' := ⟨.ep ((encI .u8) (nth (bytesI y1.1) s93.2)), [], []⟩) (c := inR s93.2 (bytesI y1.1).length) (tr2 := []) (H2 := [.box [.str x1, .int .i64 y1.2]]) (by kernel_rfl) hm (fun hc => N.idx (encI_len .u8) hc) (by kernel_rfl) ?_
    refine kC 2 [0,1,4,5,6,7,9,31,32,33] ?_
    refine kEN ?_
    refine kR ?_
    refine kC 7 [0,1,4,5,6,7,31,32,33] ?_
    refine kE ?_
    refine PJ.blockNormal ?_
    refine PJ.next ?_
    refine kR ?_
    refine RJ.seg 2 [0, 1, 4, 5, 6, 7, 31, 32, 33] (L2 := [(0, .ptr 0 0), (1, .int .i64 x0), (4, .int .i64 0), (5, .bool false), (6, .str y1.1), (7, .int .i64 ((IntKind.wrap .i64 ((IntKind.wrap .i64 (s93.1 * 10)) + ((IntKind.wrap .i64 ((IntKind.wrap .u8 ((nth (bytesI y1.1) s93.2) - 48))))))))), (31, lsv (encI .u8) 1 (bytesI y1.1)), (32, .int .i64 ((bytesI y1.1).length : Int)), (33, .int .i64 (IntKind.wrap .i64 (s93.2 + 1)))]) (H2 := [.box [.str x1, .int .i64 y1.2]]) (by kernel_rfl) ?_
    refine kE ?_
    obtain rfl := oi h111
    exact PJ.loopNext [0, 1, 4, 5, 6, 7, 31, 32, 33] (by kernel_rfl) (by kernel_rfl)
   ·have h110 := condF hb108 hs106
    refine kF ?_
    refine K.exit 0 (by kernel_rfl) ?_
    refine PJ.passExit ?_
    obtain rfl := oi h110
    refine PJ.loopOut (fun e => nomatch e) (fun he113 => ?_)
    have h112 := congrArg some he113
    refine PJ.blockOut ?_
    obtain rfl := oi h112
    exact kN [0, 1, 4, 5, 6, 7]
  ·refine kS ?_
   refine kSR ?_
   refine kC 3 [0,4,5,6,7,46] ?_
   refine kEN ?_
   refine J.caseB 46 (b := (decide (s88 < x0))) (by kernel_rfl) (fun hb114 => ?_) (fun hb114 => ?_)
   ·have h115 := condT hb114 h92
    refine kT ?_
    refine kSR ?_
    refine kC 2 [0,4,5,6,7] ?_
    refine kEN ?_
    refine kX ?_
    refine PJ.passRet ?_
    obtain rfl := oi h115
    exact K.retV (H0 := [.box [.str x1, .int .i64 x2]]) [0] (.inr rfl) hFn hFH hFD (by kernel_rfl) (v1 := .tup [.int .i64 0, .bool false]) (by kernel_rfl) (by kernel_rfl) (by kernel_rfl) (by decide) (by kernel_rfl) (by kernel_rfl) (by kernel_rfl) (by kernel_rfl) (by kernel_rfl)
   ·have h116 := condF hb114 h92
    refine kF ?_
    refine kK ?_
    refine PJ.next ?_
    refine kSR ?_
    refine kC 10 [4,5,7] ?_
    refine kEN ?_
    refine kSR ?_
    refine kC 3 [4,5] ?_
    refine kEN ?_
    refine kX ?_
    obtain rfl := oi h116
    exact K.retV (H0 := [.box [.str x1, .int .i64 x2]]) [0] (.inr rfl) hFn hFH hFD (by kernel_rfl) (v1 := .tup [.int .i64 s88, .bool true]) (by kernel_rfl) (by kernel_rfl) (by kernel_rfl) (by decide) (by kernel_rfl) (by kernel_rfl) (by kernel_rfl) (by kernel_rfl) (by kernel_rfl)
def rule_reader__mod_s0 (x0 : List UInt8) (x1 : Int) (x2 : Int) (x3 : Int) (x4 : Bool) : Option (Bool × Int × Int) :=
 (Option.bind (rule_reader__eat_s0 ([37] : List UInt8) x0 x1) fun y1 => (bif (!y1.1) then (some (true, y1.2, x3)) else (Option.bind (rule_reader__number_s0 1 x0 y1.2) fun y7 => (some (y7.2.1, y7.2.2, y7.1)))))
theorem rule_reader__mod_s0_ok {x0 : List UInt8} {x1 : Int} {x2 : Int} {x3 : Int} {x4 : Bool} {r : Bool × Int × Int} (h : rule_reader__mod_s0 x0 x1 x2 x3 x4 = some r) : SC Tryd.prog 51 [.ptr 0 0, .ptr 1 0] [.box [.str x0, .int .i64 x1], .box [.int .u8 x2, .int .i64 x3, .bool x4, .nl]] (.bool r.1) [.box [.str x0, .int .i64 r.2.1], .box [.int .u8 x2, .int .i64 r.2.2, .bool x4, .nl]] := by
 refine kFn (fn := Tryd.f51) (fun F hFn hFH hFD => ?_)
 unfold rule_reader__mod_s0 at h
 refine kSR ?_
 refine kC 1 [0,1,4] ?_
 refine kEN ?_
 refine kS ?_
 refine kSR ?_
 refine kC 1 [0,1,4,6] ?_
 obtain ⟨y1, hy2, h3⟩ := bindS h
 refine RJ.callG (d := (some 7)) (f := 66) (args := [.ptr 0 0, .str ([37] : List UInt8)]) (args0 := [.ptr 0 0, .str ([37] : List UInt8)]) (v0 := .bool y1.1) (v := .bool y1.1) (tr2 := []) (H0 := [.box [.str x0, .int .i64 x1]]) (H0' := [.box [.str x0, .int .i64 y1.2]]) (H2 := [.box [.str x0, .int .i64 y1.2], .box [.int .u8 x2, .int .i64 x3, .bool x4, .nl]]) [0] (by kernel_rfl) (by kernel_rfl) (by kernel_rfl) (by kernel_rfl) (by decide) (by kernel_rfl) (by kernel_rfl) (by kernel_rfl) (.cons (Le.refl _) (.cons (Le.refl _) .nil)) (rule_reader__eat_s0_ok hy2) (by kernel_rfl) (by kernel_rfl) (by kernel_rfl) ?_
 refine kC 1 [0,1,4,8] ?_
 refine kEN ?_
 refine J.caseB 8 (b := (!y1.1)) (by kernel_rfl) (fun hb4 => ?_) (fun hb4 => ?_)
 ·have h5 := condT hb4 h3
  refine kT ?_
  refine kSR ?_
  refine RJ.seg 1 [0, 1, 4] (L2 := [(0, .ptr 0 0), (1, .ptr 1 0), (4, .bool true)]) (H2 := [.box [.str x0, .int .i64 y1.2], .box [.int .u8 x2, .int .i64 x3, .bool x4, .nl]]) (by kernel_rfl) ?_
  refine kEN ?_
  refine kX ?_
  refine PJ.passRet ?_
  obtain rfl := oi h5
  exact K.retV (H0 := [.box [.str x0, .int .i64 x1], .box [.int .u8 x2, .int .i64 x3, .bool x4, .nl]]) [0, 1] (.inr rfl) hFn hFH hFD (by kernel_rfl) (v1 := .bool true) (by kernel_rfl) (by kernel_rfl) (by kernel_rfl) (by decide) (by kernel_rfl) (by kernel_rfl) (by kernel_rfl) (by kernel_rfl) (by kernel_rfl)
 ·have h6 := condF hb4 h3
  refine kF ?_
  refine kK ?_
  refine PJ.next ?_
  refine kSR ?_
  refine RJ.seg 1 [0, 1, 4, 5] (L2 := [(0, .ptr 0 0), (1, .ptr 1 0), (4, .bool false), (5, .bool false)]) (H2 := [.box [.str x0, .int .i64 y1.2], .box [.int .u8 x2, .int .i64 x3, .bool x4, .nl]]) (by kernel_rfl) ?_
  refine kEN ?_
  refine kSR ?_
  refine kC 2 [4,5,10,11] ?_
  obtain ⟨y7, hy8, h9⟩ := bindS h6
  refine RJ.callG (d := (some 12)) (f := 67) (args := [.ptr 0 0, .int .i64 1]) (args0 := [.ptr 0 0, .int .i64 1]) (v0 := .tup [.int .i64 y7.1, .bool y7.2.1]) (v := .tup [.int .i64 y7.1, .bool y7.2.1]) (tr2 := []) (H0 := [.box [.str x0, .int .i64 y1.2]]) (H0' := [.box [.str x0, .int .i64 y7.2.2]]) (H2 := [.box [.str x0, .int .i64 y7.2.2], .box [.int .u8 x2, .int .i64 x3, .bool x4, .nl]]) [0] (by kernel_rfl) (by kernel_rfl) (by kernel_rfl) (by kernel_rfl) (by decide) (by kernel_rfl) (by kernel_rfl) (by kernel_rfl) (.cons (Le.refl _) (.cons (Le.refl _) .nil)) (rule_reader__number_s0_ok hy8) (by kernel_rfl) (by kernel_rfl) (by kernel_rfl) ?_
  refine kC 7 [4,5] ?_
  refine kEN ?_
  refine kSR ?_
  refine kC 2 [4] ?_
  refine kEN ?_
  refine kX ?_
  obtain rfl := oi h9
  exact K.retV (H0 := [.box [.str x0, .int .i64 x1], .box [.int .u8 x2, .int .i64 x3, .bool x4, .nl]]) [0, 1] (.inr rfl) hFn hFH hFD (by kernel_rfl) (v1 := .bool y7.2.1) (by kernel_rfl) (by kernel_rfl) (by kernel_rfl) (by decide) (by kernel_rfl) (by kernel_rfl) (by kernel_rfl) (by kernel_rfl) (by kernel_rfl)
def rule_reader__sign_s0 (x0 : List UInt8) (x1 : Int) (x2 : Int) (x3 : Int) (x4 : Bool) : Option (Bool × Int × Bool) :=
 (Option.bind (rule_reader__eat_s0 ([61] : List UInt8) x0 x1) fun y1 => (bif y1.1 then (some (true, y1.2, x4)) else (Option.bind (rule_reader__eat_s0 ([33, 61] : List UInt8) x0 y1.2) fun y7 => (some (y7.1, y7.2, y7.1)))))
theorem rule_reader__sign_s0_ok {x0 : List UInt8} {x1 : Int} {x2 : Int} {x3 : Int} {x4 : Bool} {r : Bool × Int × Bool} (h : rule_reader__sign_s0 x0 x1 x2 x3 x4 = some r) : SC Tryd.prog 52 [.ptr 0 0, .ptr 1 0] [.box [.str x0, .int .i64 x1], .box [.int .u8 x2, .int .i64 x3, .bool x4, .nl]] (.bool r.1) [.box [.str x0, .int .i64 r.2.1], .box [.int .u8 x2, .int .i64 x3, .bool r.2.2, .nl]] := by
 refine kFn (fn := Tryd.f52) (fun F hFn hFH hFD => ?_)
 unfold rule_reader__sign_s0 at h
 refine kSR ?_
 refine kC 1 [0,1,4] ?_
 refine kEN ?_
 refine kS ?_
 refine kSR ?_
 refine kC 1 [0,1,4,5] ?_
 obtain ⟨y1, hy2, h3⟩ := bindS h
 refine RJ.callG (d := (some 6)) (f := 66) (args := [.ptr 0 0, .str ([61] : List UInt8)]) (args0 := [.ptr 0 0, .str ([61] : List UInt8)]) (v0 := .bool y1.1) (v := .bool y1.1) (tr2 := []) (H0 := [.box [.str x0, .int .i64 x1]]) (H0' := [.box [.str x0, .int .i64 y1.2]]) (H2 := [.box [.str x0, .int .i64 y1.2], .box [.int .u8 x2, .int .i64 x3, .bool x4, .nl]]) [0] (by kernel_rfl) (by kernel_rfl) (by kernel_rfl) (by kernel_rfl) (by decide) (by kernel_rfl) (by kernel_rfl) (by kernel_rfl) (.cons (Le.refl _) (.cons (Le.refl _) .nil)) (rule_reader__eat_s0_ok hy2) (by kernel_rfl) (by kernel_rfl) (by kernel_rfl) ?_
 refine kEN ?_
 refine J.caseB 6 (b := y1.1) (by kernel_rfl) (fun hb4 => ?_) (fun hb4 => ?_)
 ·have h5 := condT hb4 h3
  refine kT ?_
  refine kSR ?_
  refine kC 1 [0,1,4] ?_
  refine kEN ?_
  refine kX ?_
  refine PJ.passRet ?_
  obtain rfl := oi h5
  exact K.retV (H0 := [.box [.str x0, .int .i64 x1], .box [.int .u8 x2, .int .i64 x3, .bool x4, .nl]]) [0, 1] (.inr rfl) hFn hFH hFD (by kernel_rfl) (v1 := .bool true) (by kernel_rfl) (by kernel_rfl) (by kernel_rfl) (by decide) (by kernel_rfl) (by kernel_rfl) (by kernel_rfl) (by kernel_rfl) (by kernel_rfl)
 ·have h6 := condF hb4 h3
  refine kF ?_
  refine kK ?_
  refine PJ.next ?_
  refine kSR ?_
  refine kC 2 [1,4,7,8] ?_
  obtain ⟨y7, hy8, h9⟩ := bindS h6
  refine RJ.callG (d := (some 9)) (f := 66) (args := [.ptr 0 0, .str ([33, 61] : List UInt8)]) (args0 := [.ptr 0 0, .str ([33, 61] : List UInt8)]) (v0 := .bool y7.1) (v := .bool y7.1) (tr2 := []) (H0 := [.box [.str x0, .int .i64 y1.2]]) (H0' := [.box [.str x0, .int .i64 y7.2]]) (H2 := [.box [.str x0, .int .i64 y7.2], .box [.int .u8 x2, .int .i64 x3, .bool x4, .nl]]) [0] (by kernel_rfl) (by kernel_rfl) (by kernel_rfl) (by kernel_rfl) (by decide) (by kernel_rfl) (by kernel_rfl) (by kernel_rfl) (.cons (Le.refl _) (.cons (Le.refl _) .nil)) (rule_reader__eat_s0_ok hy8) (by kernel_rfl) (by kernel_rfl) (by kernel_rfl) ?_
  refine RJ.seg 3 [1, 4] (L2 := [(1, .ptr 1 0), (4, .bool false)]) (H2 := [.box [.str x0, .int .i64 y7.2], .box [.int .u8 x2, .int .i64 x3, .bool y7.1, .nl]]) (by kernel_rfl) ?_
  refine kEN ?_
  refine kSR ?_
  refine kC 5 [4] ?_
  refine kEN ?_
  refine kX ?_
  obtain rfl := oi h9
  exact K.retV (H0 := [.box [.str x0, .int .i64 x1], .box [.int .u8 x2, .int .i64 x3, .bool x4, .nl]]) [0, 1] (.inr rfl) hFn hFH hFD (by kernel_rfl) (v1 := .bool y7.1) (by kernel_rfl) (by kernel_rfl) (by kernel_rfl) (by decide) (by kernel_rfl) (by kernel_rfl) (by kernel_rfl) (by kernel_rfl) (by kernel_rfl)
def rule_reader__ranges_s0 (x0 : List UInt8) (x1 : Int) (x2 : Int) (x3 : Int) (x4 : Bool) : Option (Bool × Int × (List St73)) :=
 (loopN (fun (s1 : Int × (List St73)) => (Option.bind (rule_reader__number_s0 0 x0 s1.1) fun y140 => (Option.bind (Option.bind (bif y140.2.1 then (Option.bind (rule_reader__eat_s0 ([46, 46] : List UInt8) x0 y140.2.2) fun y185 => (some (y185.1, y185.2))) else (some (false, y140.2.2))) fun (s177 : Bool × Int) => (bif s177.1 then (Option.bind (rule_reader__number_s0 (IntKind.wrap .i64 (y140.1 + 1)) x0 s177.2) fun y191 => (some (y191.2.1, y191.1, y191.2.2))) else (some (y140.2.1, y140.1, s177.2)))) fun (s166 : Bool × Int × Int) => (bif (!s166.1) then (some (.inr (false, s166.2.2, s1.2))) else (bif room (s1.2.length + ([(⟨y140.1, s166.2.1⟩ : St73)] : List St73).length) then (Option.bind (rule_reader__eat_s0 ([44] : List UInt8) x0 s166.2.2) fun y200 => (bif (!y200.1) then (some (.inr (true, y200.2, (s1.2 ++ ([(⟨y140.1, s166.2.1⟩ : St73)] : List St73))))) else (some (.inl (y200.2, (s1.2 ++ ([(⟨y140.1, s166.2.1⟩ : St73)] : List St73))))))) else none))))) big (x1, ([] : List St73)))
theorem rule_reader__ranges_s0_ok {x0 : List UInt8} {x1 : Int} {x2 : Int} {x3 : Int} {x4 : Bool} {r : Bool × Int × (List St73)} (h : rule_reader__ranges_s0 x0 x1 x2 x3 x4 = some r) : SC Tryd.prog 53 [.ptr 0 0, .ptr 1 0] [.box [.str x0, .int .i64 x1], .box [.int .u8 x2, .int .i64 x3, .bool x4, .nl]] (.bool r.1) [.box [.str x0, .int .i64 r.2.1], .box [.int .u8 x2, .int .i64 x3, .bool x4, .vc 2], vecL encSt73 2 73 r.2.2] := by
 refine kFn (fn := Tryd.f53) (fun F hFn hFH hFD => ?_)
 unfold rule_reader__ranges_s0 at h
 refine kSR ?_
 refine kC 1 [0,1,4] ?_
 refine kEN ?_
 refine K.block 0 (by kernel_rfl) ?_
 refine J.wk (Wk.vivBox 1 3 2 73 (cs := [.int .u8 x2, .int .i64 x3, .bool x4, .nl]) (by kernel_rfl) (by kernel_rfl)) ?_
 refine K.loop (by kernel_rfl) (fun (s1 : Int × (List St73)) => ([(0, .ptr 0 0), (1, .ptr 1 0), (4, .bool false)], [.box [.str x0, .int .i64 s1.1], .box [.int .u8 x2, .int .i64 x3, .bool x4, .vc 2], vecL encSt73 2 73 s1.2])) h [0, 1, 4] (by kernel_rfl) (by kernel_rfl) (fun s1 x139 hs138 => ?_)
 refine K.block 1 (by kernel_rfl) ?_
 refine kSR ?_
 refine kC 1 [0,1,4,9] ?_
 obtain ⟨y140, hy141, h142⟩ := bindS hs138
 refine RJ.callG (d := (some 10)) (f := 67) (args := [.ptr 0 0, .int .i64 0]) (args0 := [.ptr 0 0, .int .i64 0]) (v0 := .tup [.int .i64 y140.1, .bool y140.2.1]) (v := .tup [.int .i64 y140.1, .bool y140.2.1]) (tr2 := []) (H0 := [.box [.str x0, .int .i64 s1.1]]) (H0' := [.box [.str x0, .int .i64 y140.2.2]]) (H2 := [.box [.str x0, .int .i64 y140.2.2], .box [.int .u8 x2, .int .i64 x3, .bool x4, .vc 2], vecL encSt73 2 73 s1.2]) [0] (by kernel_rfl) (by kernel_rfl) (by kernel_rfl) (by kernel_rfl) (by decide) (by kernel_rfl) (by kernel_rfl) (by kernel_rfl) (.cons (Le.refl _) (.cons (Le.refl _) .nil)) (rule_reader__number_s0_ok hy141) (by kernel_rfl) (by kernel_rfl) (by kernel_rfl) ?_
 refine kC 5 [0,1,4,5,6] ?_
 refine kEN ?_
 refine kSR ?_
 refine kC 2 [0,1,4,5,6,7] ?_
 refine kEN ?_
 obtain ⟨s166, hy168, h170⟩ := bindS h142
 refine K.cutN (by kernel_rfl) (fun (s166 : Bool × Int × Int) => ([(0, .ptr 0 0), (1, .ptr 1 0), (4, .bool false), (5, .int .i64 y140.1), (6, .bool s166.1), (7, .int .i64 s166.2.1)], [.box [.str x0, .int .i64 s166.2.2], .box [.int .u8 x2, .int .i64 x3, .bool x4, .vc 2], vecL encSt73 2 73 s1.2])) s166 ?_ ?_
 ·obtain ⟨s177, hy179, h181⟩ := bindS hy168
  refine K.cutN (by kernel_rfl) (fun (s177 : Bool × Int) => ([(0, .ptr 0 0), (1, .ptr 1 0), (4, .bool false), (5, .int .i64 y140.1), (6, .bool y140.2.1), (7, .int .i64 y140.1), (18, .bool s177.1)], [.box [.str x0, .int .i64 s177.2], .box [.int .u8 x2, .int .i64 x3, .bool x4, .vc 2], vecL encSt73 2 73 s1.2])) s177 ?_ ?_
  ·refine kR ?_
   refine RJ.seg 2 [0, 1, 4, 5, 6, 7, 15] (L2 := [(0, .ptr 0 0), (1, .ptr 1 0), (4, .bool false), (5, .int .i64 y140.1), (6, .bool y140.2.1), (7, .int .i64 y140.1), (15, .bool y140.2.1)]) (H2 := [.box [.str x0, .int .i64 y140.2.2], .box [.int .u8 x2, .int .i64 x3, .bool x4, .vc 2], vecL encSt73 2 73 s1.2]) (by kernel_rfl) ?_
   refine RJ.caseB 15 (b := y140.2.1) (by kernel_rfl) (fun hb182 => ?_) (fun hb182 => ?_)
   ·have h183 := condT hb182 hy179
    refine kC 1 [0,1,4,5,6,7,15,16] ?_
    obtain ⟨y185, hy186, h187⟩ := bindS h183
    refine RJ.callG (d := (some 17)) (f := 66) (args := [.ptr 0 0, .str ([46, 46] : List UInt8)]) (args0 := [.ptr 0 0, .str ([46, 46] : List UInt8)]) (v0 := .bool y185.1) (v := .bool y185.1) (tr2 := []) (H0 := [.box [.str x0, .int .i64 y140.2.2]]) (H0' := [.box [.str x0, .int .i64 y185.2]]) (H2 := [.box [.str x0, .int .i64 y185.2], .box [.int .u8 x2, .int .i64 x3, .bool x4, .vc 2], vecL encSt73 2 73 s1.2]) [0] (by kernel_rfl) (by kernel_rfl) (by kernel_rfl) (by kernel_rfl) (by decide) (by kernel_rfl) (by kernel_rfl) (by kernel_rfl) (.cons (Le.refl _) (.cons (Le.refl _) .nil)) (rule_reader__eat_s0_ok hy186) (by kernel_rfl) (by kernel_rfl) (by kernel_rfl) ?_
    refine kC 1 [0,1,4,5,6,7,18] ?_
    refine kE ?_
    obtain rfl := oi h187
    exact kN [0, 1, 4, 5, 6, 7, 18]
   ·have h184 := condF hb182 hy179
    refine kC 3 [0,1,4,5,6,7,18] ?_
    refine kE ?_
    obtain rfl := oi h184
    exact kN [0, 1, 4, 5, 6, 7, 18]
  ·refine J.caseB 18 (b := s177.1) (by kernel_rfl) (fun hb188 => ?_) (fun hb188 => ?_)
   ·have h189 := condT hb188 h181
    refine kT ?_
    refine kR ?_
    refine kC 3 [0,1,4,5,6,7,20,22] ?_
    obtain ⟨y191, hy192, h193⟩ := bindS h189
    refine RJ.callG (d := (some 23)) (f := 67) (args := [.ptr 0 0, .int .i64 (IntKind.wrap .i64 (y140.1 + 1))]) (args0 := [.ptr 0 0, .int .i64 (IntKind.wrap .i64 (y140.1 + 1))]) (v0 := .tup [.int .i64 y191.1, .bool y191.2.1]) (v := .tup [.int .i64 y191.1, .bool y191.2.1]) (tr2 := []) (H0 := [.box [.str x0, .int .i64 s177.2]]) (H0' := [.box [.str x0, .int .i64 y191.2.2]]) (H2 := [.box [.str x0, .int .i64 y191.2.2], .box [.int .u8 x2, .int .i64 x3, .bool x4, .vc 2], vecL encSt73 2 73 s1.2]) [0] (by kernel_rfl) (by kernel_rfl) (by kernel_rfl) (by kernel_rfl) (by decide) (by kernel_rfl) (by kernel_rfl) (by kernel_rfl) (.cons (Le.refl _) (.cons (Le.refl _) .nil)) (rule_reader__number_s0_ok hy192) (by kernel_rfl) (by kernel_rfl) (by kernel_rfl) ?_
    refine kC 5 [0,1,4,5,6,7] ?_
    refine kE ?_
    obtain rfl := oi h193
    exact kN [0, 1, 4, 5, 6, 7]
   ·have h190 := condF hb188 h181
    refine kF ?_
    refine kK ?_
    obtain rfl := oi h190
    exact kN [0, 1, 4, 5, 6, 7]
 ·refine kS ?_
  refine kSR ?_
  refine kC 2 [0,1,4,5,7,27] ?_
  refine kEN ?_
  refine J.caseB 27 (b := (!s166.1)) (by kernel_rfl) (fun hb194 => ?_) (fun hb194 => ?_)
  ·have h195 := condT hb194 h170
   refine kT ?_
   refine kSR ?_
   refine kC 1 [0,1,4,5,7] ?_
   refine kEN ?_
   refine kX ?_
   refine PJ.passRet ?_
   refine PJ.blockRet ?_
   obtain rfl := oi h195
   refine PJ.loopOut (fun e => nomatch e) (fun he198 => ?_)
   have h197 := congrArg some he198
   refine PJ.blockRet ?_
   obtain rfl := oi h197
   exact K.retV (H0 := [.box [.str x0, .int .i64 x1], .box [.int .u8 x2, .int .i64 x3, .bool x4, .nl]]) [0, 1, 2] (.inr rfl) hFn hFH hFD (by kernel_rfl) (v1 := .bool false) (by kernel_rfl) (by kernel_rfl) (by kernel_rfl) (by decide) (by kernel_rfl) (by kernel_rfl) (by kernel_rfl) (by kernel_rfl) (by kernel_rfl)
  ·have h196 := condF hb194 h170
   refine kF ?_
   refine kK ?_
   refine PJ.next ?_
   refine kSR ?_
   refine kC 9 [0,1,4,28,32,36] ?_
   obtain ⟨hm, h199⟩ := asrt h196
   refine RJ.rel (d := (some 37)) (ef := ⟨.vc 4, [2, 3], [(2, .gone), (4, .vec (s1.2.length + ([(⟨y140.1, s166.2.1⟩ : St73)] : List St73).length) 2 73 (s1.2.flatMap encSt73 ++ ([(⟨y140.1, s166.2.1⟩ : St73)] : List St73).flatMap encSt73))]⟩) (ef' := ⟨.vc 4, [2, 3], [(2, .gone), (4, vecL encSt73 2 73 (s1.2 ++ ([(⟨y140.1, s166.2.1⟩ : St73)] : List St73)))]⟩) (c := room (s1.2.length + ([(⟨y140.1, s166.2.1⟩ : St73)] : List St73).length)) (tr2 := []) (H2 := [.box [.str x0, .int .i64 s166.2.2], .box [.int .u8 x2, .int .i64 x3, .bool x4, .vc 2], .gone, vecL encSt73 2 73 ([(⟨y140.1, s166.2.1⟩ : St73)] : List St73), vecL encSt73 2 73 ((s1.2 ++ ([(⟨y140.1, s166.2.1⟩ : St73)] : List St73)))]) (by kernel_rfl) hm (fun hc => N.app) (by kernel_rfl) ?_
   refine kC 3 [0,1,4] ?_
   refine kEN ?_
   refine kSR ?_
   refine RJ.seg 1 [0, 1, 4, 40] (L2 := [(0, .ptr 0 0), (1, .ptr 1 0), (4, .bool false), (40, .ptr 0 0)]) (H2 := [.box [.str x0, .int .i64 s166.2.2], .box [.int .u8 x2, .int .i64 x3, .bool x4, .vc 4], .gone, vecL encSt73 2 73 ([(⟨y140.1, s166.2.1⟩ : St73)] : List St73), vecL encSt73 2 73 ((s1.2 ++ ([(⟨y140.1, s166.2.1⟩ : St73)] : List St73)))]) (by kernel_rfl) ?_
   obtain ⟨y200, hy201, h202⟩ := bindS h199
   refine RJ.callG (d := (some 41)) (f := 66) (args := [.ptr 0 0, .str ([44] : List UInt8)]) (args0 := [.ptr 0 0, .str ([44] : List UInt8)]) (v0 := .bool y200.1) (v := .bool y200.1) (tr2 := []) (H0 := [.box [.str x0, .int .i64 s166.2.2]]) (H0' := [.box [.str x0, .int .i64 y200.2]]) (H2 := [.box [.str x0, .int .i64 y200.2], .box [.int .u8 x2, .int .i64 x3, .bool x4, .vc 4], .gone, vecL encSt73 2 73 ([(⟨y140.1, s166.2.1⟩ : St73)] : List St73), vecL encSt73 2 73 ((s1.2 ++ ([(⟨y140.1, s166.2.1⟩ : St73)] : List St73)))]) [0] (by kernel_rfl) (by kernel_rfl) (by kernel_rfl) (by kernel_rfl) (by decide) (by kernel_rfl) (by kernel_rfl) (by kernel_rfl) (.cons (Le.refl _) (.cons (Le.refl _) .nil)) (rule_reader__eat_s0_ok hy201) (by kernel_rfl) (by kernel_rfl) (by kernel_rfl) ?_
   refine kC 1 [0,1,4,42] ?_
   refine kEN ?_
   refine J.caseB 42 (b := (!y200.1)) (by kernel_rfl) (fun hb203 => ?_) (fun hb203 => ?_)
   ·have h204 := condT hb203 h202
    refine kT ?_
    refine kSR ?_
    refine kC 1 [0,1,4] ?_
    refine kEN ?_
    refine kX ?_
    refine PJ.blockRet ?_
    obtain rfl := oi h204
    refine PJ.loopOut (fun e => nomatch e) (fun he207 => ?_)
    have h206 := congrArg some he207
    refine PJ.blockRet ?_
    obtain rfl := oi h206
    exact K.retV (H0 := [.box [.str x0, .int .i64 x1], .box [.int .u8 x2, .int .i64 x3, .bool x4, .nl]]) [0, 1, 4] (.inr rfl) hFn hFH hFD (by kernel_rfl) (v1 := .bool true) (by kernel_rfl) (by kernel_rfl) (by kernel_rfl) (by decide) (by kernel_rfl) (by kernel_rfl) (by kernel_rfl) (by kernel_rfl) (by kernel_rfl)
   ·have h205 := condF hb203 h202
    refine kF ?_
    refine kK ?_
    refine PJ.blockNormal ?_
    obtain rfl := oi h205
    refine PJ.wk (Wk.sel (L2 := [(0, .ptr 0 0), (1, .ptr 1 0), (4, .bool false)]) (H2 := [.box [.str x0, .int .i64 y200.2], .box [.int .u8 x2, .int .i64 x3, .bool x4, .vc 2], vecL encSt73 2 73 ((s1.2 ++ ([(⟨y140.1, s166.2.1⟩ : St73)] : List St73)))]) 2 (by rw [hFH]; rfl) hFD [0, 1, 4] (by kernel_rfl) (by kernel_rfl) (by decide) (by kernel_rfl) (by kernel_rfl) (by kernel_rfl) (by kernel_rfl)) ?_
    exact PJ.loopNext [0, 1, 4] (by kernel_rfl) (by kernel_rfl)
def rule_reader__relation_s0 (x0 : List UInt8) (x1 : Int) : Option (St71 × Bool × Int) :=
 (Option.bind (Option.bind (Option.bind (rule_reader__operand_s0 x0 x1 0 0 false) fun y83 => (bif y83.1 then (Option.bind (rule_reader__mod_s0 x0 y83.2.1 y83.2.2 0 false) fun y89 => (bif y89.1 then (Option.bind (rule_reader__sign_s0 x0 y89.2.1 y83.2.2 y89.2.2 false) fun y95 => (bif y95.1 then (Option.bind (rule_reader__ranges_s0 x0 y95.2.1 y83.2.2 y89.2.2 y95.2.2) fun y101 => (some (y101.1, y101.2.1, y83.2.2, y89.2.2, y95.2.2, y101.2.2))) else (some (false, y95.2.1, y83.2.2, y89.2.2, y95.2.2, ([] : List St73))))) else (some (false, y89.2.1, y83.2.2, y89.2.2, false, ([] : List St73))))) else (some (false, y83.2.1, y83.2.2, 0, false, ([] : List St73))))) fun (s78 : Bool × Int × Int × Int × Bool × (List St73)) => (bif s78.1 then (some (.inr ((⟨s78.2.2.1, s78.2.2.2.1, s78.2.2.2.2.1, s78.2.2.2.2.2⟩ : St71), true, s78.2.1))) else (some (.inl s78.2.1)))) (joinX fun (s52 : Int) => (some ((⟨0, 0, false, ([] : List St73)⟩ : St71), false, s52))))
theorem rule_reader__relation_s0_ok {x0 : List UInt8} {x1 : Int} {r : St71 × Bool × Int} (h : rule_reader__relation_s0 x0 x1 = some r) : SC Tryd.prog 41 [.ptr 0 0] [.box [.str x0, .int .i64 x1]] (.tup [.agg (encSt71 r.1), .bool r.2.1]) [.box [.str x0, .int .i64 r.2.2]] := by
 refine kFn (fn := Tryd.f41) (fun F hFn hFH hFD => ?_)
 unfold rule_reader__relation_s0 at h
 refine kSR ?_
 refine kC 2 [0,2,3] ?_
 refine kEN ?_
 refine kSR ?_
 refine kC 1 [0,2,3,4] ?_
 refine kEN ?_
 obtain ⟨y53, hy54, h55⟩ := bindS h
 refine K.cutX (by kernel_rfl) (fun (s52 : Int) => ([(2, .ptr 1 0), (3, .bool false)], [.box [.str x0, .int .i64 s52], .box [.int .u8 0, .int .i64 0, .bool false, .nl]])) y53 ?_ (fun s52 hs => ?_)
 ·obtain ⟨s78, hy80, h82⟩ := bindS hy54
  refine K.cutN (by kernel_rfl) (fun (s78 : Bool × Int × Int × Int × Bool × (List St73)) => ([(2, .ptr 1 0), (3, .bool false), (4, .ptr 2 0), (18, .bool s78.1)], [.box [.str x0, .int .i64 s78.2.1], .box [.int .u8 0, .int .i64 0, .bool false, .nl], .box [.int .u8 s78.2.2.1, .int .i64 s78.2.2.2.1, .bool s78.2.2.2.2.1, .vc 3], vecL encSt73 2 73 s78.2.2.2.2.2])) s78 ?_ ?_
  ·refine kR ?_
   refine kC 1 [0,2,3,4,5] ?_
   obtain ⟨y83, hy84, h85⟩ := bindS hy80
   refine RJ.callG (d := (some 6)) (f := 50) (args := [.ptr 0 0, .ptr 2 0]) (args0 := [.ptr 0 0, .ptr 1 0]) (v0 := .bool y83.1) (v := .bool y83.1) (tr2 := []) (H0 := [.box [.str x0, .int .i64 x1], .box [.int .u8 0, .int .i64 0, .bool false, .nl]]) (H0' := [.box [.str x0, .int .i64 y83.2.1], .box [.int .u8 y83.2.2, .int .i64 0, .bool false, .nl]]) (H2 := [.box [.str x0, .int .i64 y83.2.1], .box [.int .u8 0, .int .i64 0, .bool false, .nl], .box [.int .u8 y83.2.2, .int .i64 0, .bool false, .nl]]) [0, 2] (by kernel_rfl) (by kernel_rfl) (by kernel_rfl) (by kernel_rfl) (by decide) (by kernel_rfl) (by kernel_rfl) (by kernel_rfl) (.cons (Le.refl _) (.cons (Le.refl _) .nil)) (rule_reader__operand_s0_ok hy84) (by kernel_rfl) (by kernel_rfl) (by kernel_rfl) ?_
   refine RJ.seg 1 [0, 2, 3, 4, 7] (L2 := [(0, .ptr 0 0), (2, .ptr 1 0), (3, .bool false), (4, .ptr 2 0), (7, .bool y83.1)]) (H2 := [.box [.str x0, .int .i64 y83.2.1], .box [.int .u8 0, .int .i64 0, .bool false, .nl], .box [.int .u8 y83.2.2, .int .i64 0, .bool false, .nl]]) (by kernel_rfl) ?_
   refine RJ.caseB 7 (b := y83.1) (by kernel_rfl) (fun hb86 => ?_) (fun hb86 => ?_)
   ·have h87 := condT hb86 h85
    refine kC 1 [0,2,3,4,7,8] ?_
    obtain ⟨y89, hy90, h91⟩ := bindS h87
    refine RJ.callG (d := (some 9)) (f := 51) (args := [.ptr 0 0, .ptr 2 0]) (args0 := [.ptr 0 0, .ptr 1 0]) (v0 := .bool y89.1) (v := .bool y89.1) (tr2 := []) (H0 := [.box [.str x0, .int .i64 y83.2.1], .box [.int .u8 y83.2.2, .int .i64 0, .bool false, .nl]]) (H0' := [.box [.str x0, .int .i64 y89.2.1], .box [.int .u8 y83.2.2, .int .i64 y89.2.2, .bool false, .nl]]) (H2 := [.box [.str x0, .int .i64 y89.2.1], .box [.int .u8 0, .int .i64 0, .bool false, .nl], .box [.int .u8 y83.2.2, .int .i64 y89.2.2, .bool false, .nl]]) [0, 2] (by kernel_rfl) (by kernel_rfl) (by kernel_rfl) (by kernel_rfl) (by decide) (by kernel_rfl) (by kernel_rfl) (by kernel_rfl) (.cons (Le.refl _) (.cons (Le.refl _) .nil)) (rule_reader__mod_s0_ok hy90) (by kernel_rfl) (by kernel_rfl) (by kernel_rfl) ?_
    refine kC 2 [0,2,3,4,11] ?_
    refine RJ.caseB 11 (b := y89.1) (by kernel_rfl) (fun hb92 => ?_) (fun hb92 => ?_)
    ·have h93 := condT hb92 h91
     refine kC 1 [0,2,3,4,11,12] ?_
     obtain ⟨y95, hy96, h97⟩ := bindS h93
     refine RJ.callG (d := (some 13)) (f := 52) (args := [.ptr 0 0, .ptr 2 0]) (args0 := [.ptr 0 0, .ptr 1 0]) (v0 := .bool y95.1) (v := .bool y95.1) (tr2 := []) (H0 := [.box [.str x0, .int .i64 y89.2.1], .box [.int .u8 y83.2.2, .int .i64 y89.2.2, .bool false, .nl]]) (H0' := [.box [.str x0, .int .i64 y95.2.1], .box [.int .u8 y83.2.2, .int .i64 y89.2.2, .bool y95.2.2, .nl]]) (H2 := [.box [.str x0, .int .i64 y95.2.1], .box [.int .u8 0, .int .i64 0, .bool false, .nl], .box [.int .u8 y83.2.2, .int .i64 y89.2.2, .bool y95.2.2, .nl]]) [0, 2] (by kernel_rfl) (by kernel_rfl) (by kernel_rfl) (by kernel_rfl) (by decide) (by kernel_rfl) (by kernel_rfl) (by kernel_rfl) (.cons (Le.refl _) (.cons (Le.refl _) .nil)) (rule_reader__sign_s0_ok hy96) (by kernel_rfl) (by kernel_rfl) (by kernel_rfl) ?_
     refine RJ.seg 2 [0, 2, 3, 4, 15] (L2 := [(0, .ptr 0 0), (2, .ptr 1 0), (3, .bool false), (4, .ptr 2 0), (15, .bool y95.1)]) (H2 := [.box [.str x0, .int .i64 y95.2.1], .box [.int .u8 0, .int .i64 0, .bool false, .nl], .box [.int .u8 y83.2.2, .int .i64 y89.2.2, .bool y95.2.2, .nl]]) (by kernel_rfl) ?_
     refine RJ.caseB 15 (b := y95.1) (by kernel_rfl) (fun hb98 => ?_) (fun hb98 => ?_)
     ·have h99 := condT hb98 h97
      refine kC 1 [2,3,4,15,16] ?_
      obtain ⟨y101, hy102, h103⟩ := bindS h99
      refine RJ.callG (d := (some 17)) (f := 53) (args := [.ptr 0 0, .ptr 2 0]) (args0 := [.ptr 0 0, .ptr 1 0]) (v0 := .bool y101.1) (v := .bool y101.1) (tr2 := []) (H0 := [.box [.str x0, .int .i64 y95.2.1], .box [.int .u8 y83.2.2, .int .i64 y89.2.2, .bool y95.2.2, .nl]]) (H0' := [.box [.str x0, .int .i64 y101.2.1], .box [.int .u8 y83.2.2, .int .i64 y89.2.2, .bool y95.2.2, .vc 2], vecL encSt73 2 73 y101.2.2]) (H2 := [.box [.str x0, .int .i64 y101.2.1], .box [.int .u8 0, .int .i64 0, .bool false, .nl], .box [.int .u8 y83.2.2, .int .i64 y89.2.2, .bool y95.2.2, .vc 3], vecL encSt73 2 73 y101.2.2]) [0, 2] (by kernel_rfl) (by kernel_rfl) (by kernel_rfl) (by kernel_rfl) (by decide) (by kernel_rfl) (by kernel_rfl) (by kernel_rfl) (.cons (Le.refl _) (.cons (Le.refl _) .nil)) (rule_reader__ranges_s0_ok hy102) (by kernel_rfl) (by kernel_rfl) (by kernel_rfl) ?_
      refine kC 1 [2,3,4,18] ?_
      refine kE ?_
      obtain rfl := oi h103
      exact kN [2, 3, 4, 18]
     ·have h100 := condF hb98 h97
      refine kC 3 [2,3,4,18] ?_
      refine kE ?_
      obtain rfl := oi h100
      refine PJ.wk (Wk.vivBox 2 3 2 73 (cs := [.int .u8 y83.2.2, .int .i64 y89.2.2, .bool y95.2.2, .nl]) (by kernel_rfl) (by kernel_rfl)) ?_
      exact kN [2, 3, 4, 18]
    ·have h94 := condF hb92 h91
     refine kC 7 [2,3,4,18] ?_
     refine kE ?_
     obtain rfl := oi h94
     refine PJ.wk (Wk.vivBox 2 3 2 73 (cs := [.int .u8 y83.2.2, .int .i64 y89.2.2, .bool false, .nl]) (by kernel_rfl) (by kernel_rfl)) ?_
     exact kN [2, 3, 4, 18]
   ·have h88 := condF hb86 h85
    refine kC 11 [2,3,4,18] ?_
    refine kE ?_
    obtain rfl := oi h88
    refine PJ.wk (Wk.vivBox 2 3 2 73 (cs := [.int .u8 y83.2.2, .int .i64 0, .bool false, .nl]) (by kernel_rfl) (by kernel_rfl)) ?_
    exact kN [2, 3, 4, 18]
  ·refine J.caseB 18 (b := s78.1) (by kernel_rfl) (fun hb104 => ?_) (fun hb104 => ?_)
   ·have h105 := condT hb104 h82
    refine kT ?_
    refine kSR ?_
    refine kC 3 [2,3] ?_
    refine kEN ?_
    refine kX ?_
    obtain rfl := oi h105
    have h107 := joinX_inr h55
    refine PJ.cutXr (fun e => nomatch e) ?_
    obtain rfl := oi h107
    refine PJ.wk (Wk.freeze 3 (n := s78.2.2.2.2.2.length) (k := 2) (e := 73) (cs := s78.2.2.2.2.2.flatMap encSt73) (by kernel_rfl)) ?_
    exact K.retV (H0 := [.box [.str x0, .int .i64 x1]]) [0] (.inr rfl) hFn hFH hFD (by kernel_rfl) (v1 := .tup [.agg [.int .u8 s78.2.2.1, .int .i64 s78.2.2.2.1, .bool s78.2.2.2.2.1, lsv encSt73 2 s78.2.2.2.2.2], .bool true]) (by kernel_rfl) (by kernel_rfl) (by kernel_rfl) (by decide) (by kernel_rfl) (by kernel_rfl) (by kernel_rfl) (by kernel_rfl) (by kernel_rfl)
   ·have h106 := condF hb104 h82
    refine kF ?_
    refine kK ?_
    obtain rfl := oi h106
    refine PJ.wk (Wk.sel (L2 := [(2, .ptr 1 0), (3, .bool false)]) (H2 := [.box [.str x0, .int .i64 s78.2.1], .box [.int .u8 0, .int .i64 0, .bool false, .nl]]) 1 (by rw [hFH]; rfl) hFD [0, 1] (by kernel_rfl) (by kernel_rfl) (by decide) (by kernel_rfl) (by kernel_rfl) (by kernel_rfl) (by kernel_rfl)) ?_
    exact PJ.cutXl [2, 3] (by kernel_rfl) (by kernel_rfl)
 ·subst hs
  have h56 := joinX_inl h55
  refine kSR ?_
  refine kC 3 [2,3] ?_
  refine kEN ?_
  refine kX ?_
  obtain rfl := oi h56
  refine PJ.res (v1 := .tup [.agg [.int .u8 0, .int .i64 0, .bool false, .nl], .bool false]) (Le.tup (.cons (Le.agg (.cons (Le.refl _) (.cons (Le.refl _) (.cons (Le.refl _) (.cons (Le.nl _) .nil))))) (.cons (Le.refl _) .nil))) ?_
  exact K.retV (H0 := [.box [.str x0, .int .i64 x1]]) [0] (.inr rfl) hFn hFH hFD (by kernel_rfl) (v1 := .tup [.agg [.int .u8 0, .int .i64 0, .bool false, .nl], .bool false]) (by kernel_rfl) (by kernel_rfl) (by kernel_rfl) (by decide) (by kernel_rfl) (by kernel_rfl) (by kernel_rfl) (by kernel_rfl) (by kernel_rfl)
def rule_reader__rows_s0 (x0 : List UInt8) (x1 : Int) : Option ((List (List St71)) × Bool × Int) :=
 (Option.bind (loopN (fun (s75 : Int × (List (List St71)) × (List St71)) => (Option.bind (rule_reader__relation_s0 x0 s75.1) fun y122 => (bif (!y122.2.1) then (some (.inr (.inr (([] : List (List St71)), false, y122.2.2)))) else (bif room (s75.2.2.length + ([y122.1] : List St71).length) then (Option.bind (rule_reader__word_s0 x0 y122.2.2) fun y132 => (bif (y132.1 == ([97, 110, 100] : List UInt8)) then (some (.inl ((IntKind.wrap .i64 (y132.2 + (y132.1.length : Int))), s75.2.1, (s75.2.2 ++ ([y122.1] : List St71))))) else (bif (y132.1 == ([111, 114] : List UInt8)) then (bif room (s75.2.1.length + (([(s75.2.2 ++ ([y122.1] : List St71))] : List (List St71))).length) then (some (.inl ((IntKind.wrap .i64 (y132.2 + (y132.1.length : Int))), (s75.2.1 ++ (([(s75.2.2 ++ ([y122.1] : List St71))] : List (List St71)))), ([] : List St71)))) else none) else (some (.inr (.inl (y132.2, s75.2.1, (s75.2.2 ++ ([y122.1] : List St71))))))))) else none)))) big (x1, ([] : List (List St71)), ([] : List St71))) (joinX fun (s70 : Int × (List (List St71)) × (List St71)) => (bif room (s70.2.1.length + ([s70.2.2] : List (List St71)).length) then (some ((s70.2.1 ++ ([s70.2.2] : List (List St71))), (decide (s70.1 = (x0.length : Int))), s70.1)) else none)))
theorem rule_reader__rows_s0_ok {x0 : List UInt8} {x1 : Int} {r : (List (List St71)) × Bool × Int} (h : rule_reader__rows_s0 x0 x1 = some r) : SC Tryd.prog 29 [.ptr 0 0] [.box [.str x0, .int .i64 x1]] (.tup [lsv (encL encSt71 4) 1 r.1, .bool r.2.1]) [.box [.str x0, .int .i64 r.2.2]] := by
 refine kFn (fn := Tryd.f29) (fun F hFn hFH hFD => ?_)
 unfold rule_reader__rows_s0 at h
 refine kSR ?_
 refine kC 2 [0,2,3] ?_
 refine kEN ?_
 refine K.scope (by kernel_rfl) ?_
 refine kSR ?_
 refine kC 1 [0,2,3,4] ?_
 refine kEN ?_
 refine kSR ?_
 refine kC 1 [0,2,3,4,5] ?_
 refine kEN ?_
 refine kS ?_
 refine K.label (by kernel_rfl) ?_
 refine PJ.next ?_
 obtain ⟨y71, hy72, h73⟩ := bindS h
 refine K.cutX (by kernel_rfl) (fun (s70 : Int × (List (List St71)) × (List St71)) => ([(0, .ptr 0 0), (2, .nl), (3, .bool false), (4, .vc 1), (5, .vc 2)], [.box [.str x0, .int .i64 s70.1], vecL (encL encSt71 4) 1 69 s70.2.1, vecL encSt71 4 72 s70.2.2])) y71 ?_ (fun s70 hs => ?_)
 ·refine K.block 0 (by kernel_rfl) ?_
  refine J.wk (Wk.viv 4 1 69 (by kernel_rfl)) ?_
  refine J.wk (Wk.viv 5 4 72 (by kernel_rfl)) ?_
  refine K.loop (by kernel_rfl) (fun (s75 : Int × (List (List St71)) × (List St71)) => ([(0, .ptr 0 0), (2, .nl), (3, .bool false), (4, .vc 1), (5, .vc 2)], [.box [.str x0, .int .i64 s75.1], vecL (encL encSt71 4) 1 69 s75.2.1, vecL encSt71 4 72 s75.2.2])) hy72 [0, 2, 3, 4, 5] (by kernel_rfl) (by kernel_rfl) (fun s75 x121 hs120 => ?_)
  refine K.block 1 (by kernel_rfl) ?_
  refine kSR ?_
  refine kC 1 [0,2,3,4,5,10] ?_
  obtain ⟨y122, hy123, h124⟩ := bindS hs120
  refine RJ.callG (d := (some 11)) (f := 41) (args := [.ptr 0 0]) (args0 := [.ptr 0 0]) (v0 := .tup [.agg (encSt71 y122.1), .bool y122.2.1]) (v := .tup [.agg (encSt71 y122.1), .bool y122.2.1]) (tr2 := []) (H0 := [.box [.str x0, .int .i64 s75.1]]) (H0' := [.box [.str x0, .int .i64 y122.2.2]]) (H2 := [.box [.str x0, .int .i64 y122.2.2], vecL (encL encSt71 4) 1 69 s75.2.1, vecL encSt71 4 72 s75.2.2]) [0] (by kernel_rfl) (by kernel_rfl) (by kernel_rfl) (by kernel_rfl) (by decide) (by kernel_rfl) (by kernel_rfl) (by kernel_rfl) (.cons (Le.refl _) .nil) (rule_reader__relation_s0_ok hy123) (by kernel_rfl) (by kernel_rfl) (by kernel_rfl) ?_
  refine kC 6 [0,2,3,4,5,6,7] ?_
  refine kEN ?_
  refine kS ?_
  refine kSR ?_
  refine kC 2 [0,2,3,4,5,6,15] ?_
  refine kEN ?_
  refine J.caseB 15 (b := (!y122.2.1)) (by kernel_rfl) (fun hb125 => ?_) (fun hb125 => ?_)
  ·have h126 := condT hb125 h124
   refine kT ?_
   refine kSR ?_
   refine RJ.seg 2 [0, 2, 3, 4, 5, 6] (L2 := [(0, .ptr 0 0), (2, .nl), (3, .bool false), (4, .vc 1), (5, .vc 2), (6, .ptr 3 0)]) (H2 := [.box [.str x0, .int .i64 y122.2.2], vecL (encL encSt71 4) 1 69 s75.2.1, vecL encSt71 4 72 s75.2.2, .box (encSt71 y122.1)]) (by kernel_rfl) ?_
   refine kEN ?_
   refine kX ?_
   refine PJ.passRet ?_
   refine PJ.blockRet ?_
   obtain rfl := oi h126
   refine PJ.loopOut (fun e => nomatch e) (fun he130 => ?_)
   have h128 := congrArg some he130
   refine PJ.blockRet ?_
   obtain rfl := oi h128
   have h129 := joinX_inr h73
   refine PJ.cutXr (fun e => nomatch e) ?_
   refine PJ.scR ?_
   obtain rfl := oi h129
   refine PJ.res (v1 := .tup [.nl, .bool false]) (Le.tup (.cons (Le.nl _) (.cons (Le.refl _) .nil))) ?_
   exact K.retV (H0 := [.box [.str x0, .int .i64 x1]]) [0] (.inr rfl) hFn hFH hFD (by kernel_rfl) (v1 := .tup [.nl, .bool false]) (by kernel_rfl) (by kernel_rfl) (by kernel_rfl) (by decide) (by kernel_rfl) (by kernel_rfl) (by kernel_rfl) (by kernel_rfl) (by kernel_rfl)
  ·have h127 := condF hb125 h124
   refine kF ?_
   refine kK ?_
   refine PJ.next ?_
   refine kSR ?_
   refine RJ.seg 3 [0, 2, 3, 4, 5, 16, 18] (L2 := [(0, .ptr 0 0), (2, .nl), (3, .bool false), (4, .vc 1), (5, .vc 2), (16, .vc 2), (18, .vc 4)]) (H2 := [.box [.str x0, .int .i64 y122.2.2], vecL (encL encSt71 4) 1 69 s75.2.1, vecL encSt71 4 72 s75.2.2, .box (encSt71 y122.1), vecL encSt71 4 72 ([y122.1] : List St71)]) (by kernel_rfl) ?_
   obtain ⟨hm, h131⟩ := asrt h127
   refine RJ.rel (d := (some 19)) (ef := ⟨.vc 5, [2, 4], [(2, .gone), (5, .vec (s75.2.2.length + ([y122.1] : List St71).length) 4 72 (s75.2.2.flatMap encSt71 ++ ([y122.1] : List St71).flatMap encSt71))]⟩) (ef' := ⟨.vc 5, [2, 4], [(2, .gone), (5, vecL encSt71 4 72 (s75.2.2 ++ ([y122.1] : List St71)))]⟩) (c := room (s75.2.2.length + ([y122.1] : List St71).length)) (tr2 := []) (H2 := [.box [.str x0, .int .i64 y122.2.2], vecL (encL encSt71 4) 1 69 s75.2.1, .gone, .box (encSt71 y122.1), vecL encSt71 4 72 ([y122.1] : List St71), vecL encSt71 4 72 (s75.2.2 ++ ([y122.1] : List St71))]) (by kernel_rfl) hm (fun hc => N.app) (by kernel_rfl) ?_
   refine kC 1 [0,2,3,4,5] ?_
   refine kEN ?_
   refine kSR ?_
   refine kC 1 [0,2,3,4,5,20] ?_
   obtain ⟨y132, hy133, h134⟩ := bindS h131
   refine RJ.callG (d := (some 21)) (f := 42) (args := [.ptr 0 0]) (args0 := [.ptr 0 0]) (v0 := .str y132.1) (v := .str y132.1) (tr2 := []) (H0 := [.box [.str x0, .int .i64 y122.2.2]]) (H0' := [.box [.str x0, .int .i64 y132.2]]) (H2 := [.box [.str x0, .int .i64 y132.2], vecL (encL encSt71 4) 1 69 s75.2.1, .gone, .box (encSt71 y122.1), vecL encSt71 4 72 ([y122.1] : List St71), vecL encSt71 4 72 (s75.2.2 ++ ([y122.1] : List St71))]) [0] (by kernel_rfl) (by kernel_rfl) (by kernel_rfl) (by kernel_rfl) (by decide) (by kernel_rfl) (by kernel_rfl) (by kernel_rfl) (.cons (Le.refl _) .nil) (rule_reader__word_s0_ok hy133) (by kernel_rfl) (by kernel_rfl) (by kernel_rfl) ?_
   refine kC 1 [0,2,3,4,5,8] ?_
   refine kEN ?_
   refine kSR ?_
   refine RJ.seg 1 [0, 2, 3, 4, 5, 8, 22] (L2 := [(0, .ptr 0 0), (2, .nl), (3, .bool false), (4, .vc 1), (5, .vc 5), (8, .str y132.1), (22, .str y132.1)]) (H2 := [.box [.str x0, .int .i64 y132.2], vecL (encL encSt71 4) 1 69 s75.2.1, .gone, .box (encSt71 y122.1), vecL encSt71 4 72 ([y122.1] : List St71), vecL encSt71 4 72 (s75.2.2 ++ ([y122.1] : List St71))]) (by kernel_rfl) ?_
   refine kEN ?_
   refine K.block 2 (by kernel_rfl) ?_
   refine kSR ?_
   refine kC 2 [0,2,3,4,5,8,22,23] ?_
   refine kEN ?_
   refine J.caseB 23 (b := (y132.1 == ([97, 110, 100] : List UInt8))) (by kernel_rfl) (fun hb135 => ?_) (fun hb135 => ?_)
   ·have h136 := condT hb135 h134
    refine kT ?_
    refine kR ?_
    refine kC 10 [0,2,3,4,5] ?_
    refine kE ?_
    refine PJ.blockNormal ?_
    refine PJ.blockNormal ?_
    obtain rfl := oi h136
    refine PJ.wk (Wk.sel (L2 := [(0, .ptr 0 0), (2, .nl), (3, .bool false), (4, .vc 1), (5, .vc 2)]) (H2 := [.box [.str x0, .int .i64 ((IntKind.wrap .i64 (y132.2 + (y132.1.length : Int))))], vecL (encL encSt71 4) 1 69 s75.2.1, vecL encSt71 4 72 (s75.2.2 ++ ([y122.1] : List St71))]) 1 (by rw [hFH]; rfl) hFD [0, 1, 5] (by kernel_rfl) (by kernel_rfl) (by decide) (by kernel_rfl) (by kernel_rfl) (by kernel_rfl) (by kernel_rfl)) ?_
    exact PJ.loopNext [0, 2, 3, 4, 5] (by kernel_rfl) (by kernel_rfl)
   ·have h137 := condF hb135 h134
    refine kF ?_
    refine kSR ?_
    refine kC 2 [0,2,3,4,5,8,34] ?_
    refine kEN ?_
    refine J.caseB 34 (b := (y132.1 == ([111, 114] : List UInt8))) (by kernel_rfl) (fun hb138 => ?_) (fun hb138 => ?_)
    ·have h139 := condT hb138 h137
     refine kT ?_
     refine kSR ?_
     refine kC 10 [0,2,3,4,5] ?_
     refine kEN ?_
     refine kSR ?_
     refine RJ.seg 2 [0, 2, 3, 4, 5, 45, 46] (L2 := [(0, .ptr 0 0), (2, .nl), (3, .bool false), (4, .vc 1), (5, .vc 5), (45, .vc 1), (46, .vc 5)]) (H2 := [.box [.str x0, .int .i64 ((IntKind.wrap .i64 (y132.2 + (y132.1.length : Int))))], vecL (encL encSt71 4) 1 69 s75.2.1, .gone, .box (encSt71 y122.1), vecL encSt71 4 72 ([y122.1] : List St71), vecL encSt71 4 72 (s75.2.2 ++ ([y122.1] : List St71))]) (by kernel_rfl) ?_
     refine RJ.wk (Wk.freeze 5 (n := (s75.2.2 ++ ([y122.1] : List St71)).length) (k := 4) (e := 72) (cs := (s75.2.2 ++ ([y122.1] : List St71)).flatMap encSt71) (by kernel_rfl)) ?_
     refine kC 1 [0,2,3,4,5,45,47] ?_
     obtain ⟨hm, h141⟩ := asrt h139
     refine RJ.rel (d := (some 48)) (ef := ⟨.vc 7, [1, 6], [(1, .gone), (7, .vec (s75.2.1.length + (([(s75.2.2 ++ ([y122.1] : List St71))] : List (List St71))).length) 1 69 (s75.2.1.flatMap (encL encSt71 4) ++ (([(s75.2.2 ++ ([y122.1] : List St71))] : List (List St71))).flatMap (encL encSt71 4)))]⟩) (ef' := ⟨.vc 7, [1, 6], [(1, .gone), (7, vecL (encL encSt71 4) 1 69 (s75.2.1 ++ (([(s75.2.2 ++ ([y122.1] : List St71))] : List (List St71)))))]⟩) (c := room (s75.2.1.length + (([(s75.2.2 ++ ([y122.1] : List St71))] : List (List St71))).length)) (tr2 := []) (H2 := [.box [.str x0, .int .i64 ((IntKind.wrap .i64 (y132.2 + (y132.1.length : Int))))], .gone, .gone, .box (encSt71 y122.1), vecL encSt71 4 72 ([y122.1] : List St71), .gone, vecL (encL encSt71 4) 1 69 (([(s75.2.2 ++ ([y122.1] : List St71))] : List (List St71))), vecL (encL encSt71 4) 1 69 ((s75.2.1 ++ (([(s75.2.2 ++ ([y122.1] : List St71))] : List (List St71)))))]) (by kernel_rfl) hm (fun hc => N.app) (by kernel_rfl) ?_
     refine kC 1 [0,2,3,4,5] ?_
     refine kEN ?_
     refine kR ?_
     refine kC 1 [0,2,3,4,5] ?_
     refine kE ?_
     refine PJ.blockNormal ?_
     refine PJ.blockNormal ?_
     obtain rfl := oi h141
     refine PJ.wk (Wk.viv 5 4 72 (by kernel_rfl)) ?_
     refine PJ.wk (Wk.sel (L2 := [(0, .ptr 0 0), (2, .nl), (3, .bool false), (4, .vc 1), (5, .vc 2)]) (H2 := [.box [.str x0, .int .i64 ((IntKind.wrap .i64 (y132.2 + (y132.1.length : Int))))], vecL (encL encSt71 4) 1 69 ((s75.2.1 ++ (([(s75.2.2 ++ ([y122.1] : List St71))] : List (List St71))))), vecL encSt71 4 72 ([] : List St71)]) 1 (by rw [hFH]; rfl) hFD [0, 7, 8] (by kernel_rfl) (by kernel_rfl) (by decide) (by kernel_rfl) (by kernel_rfl) (by kernel_rfl) (by kernel_rfl)) ?_
     exact PJ.loopNext [0, 2, 3, 4, 5] (by kernel_rfl) (by kernel_rfl)
    ·have h140 := condF hb138 h137
     refine kF ?_
     refine K.exit 0 (by kernel_rfl) ?_
     refine PJ.blockPass (by kernel_rfl) ?_
     refine PJ.blockPass (by kernel_rfl) ?_
     obtain rfl := oi h140
     refine PJ.loopOut (fun e => nomatch e) (fun he143 => ?_)
     have h142 := congrArg some he143
     refine PJ.blockOut ?_
     obtain rfl := oi h142
     refine PJ.wk (Wk.sel (L2 := [(0, .ptr 0 0), (2, .nl), (3, .bool false), (4, .vc 1), (5, .vc 2)]) (H2 := [.box [.str x0, .int .i64 y132.2], vecL (encL encSt71 4) 1 69 s75.2.1, vecL encSt71 4 72 (s75.2.2 ++ ([y122.1] : List St71))]) 1 (by rw [hFH]; rfl) hFD [0, 1, 5] (by kernel_rfl) (by kernel_rfl) (by decide) (by kernel_rfl) (by kernel_rfl) (by kernel_rfl) (by kernel_rfl)) ?_
     exact PJ.cutXl [0, 2, 3, 4, 5] (by kernel_rfl) (by kernel_rfl)
 ·subst hs
  have h74 := joinX_inl h73
  refine kS ?_
  refine J.wk (Wk.freeze 2 (n := s70.2.2.length) (k := 4) (e := 72) (cs := s70.2.2.flatMap encSt71) (by kernel_rfl)) ?_
  refine J.keep [0, 2, 3, 4, 5] (L2 := [(0, .ptr 0 0), (2, .nl), (3, .bool false), (4, .vc 1), (5, lsv encSt71 4 s70.2.2)]) (by kernel_rfl) ?_
  refine K.draw (by kernel_rfl) (by kernel_rfl) (by kernel_rfl) (H2 := [.box [.str x0, .int .i64 s70.1], vecL (encL encSt71 4) 1 69 s70.2.1, .gone, .res, .res]) (by kernel_rfl) (n := 3) (by kernel_rfl) ?_
  refine kD 3 ?_
  obtain ⟨hm, h144⟩ := asrt h74
  refine RJ.rel (d := (some 52)) (ef := ⟨.vc 4, [1, 3], [(1, .gone), (4, .vec (s70.2.1.length + ([s70.2.2] : List (List St71)).length) 1 69 (s70.2.1.flatMap (encL encSt71 4) ++ ([s70.2.2] : List (List St71)).flatMap (encL encSt71 4)))]⟩) (ef' := ⟨.vc 4, [1, 3], [(1, .gone), (4, vecL (encL encSt71 4) 1 69 (s70.2.1 ++ ([s70.2.2] : List (List St71))))]⟩) (c := room (s70.2.1.length + ([s70.2.2] : List (List St71)).length)) (tr2 := [([], []), ([], []), ([], [6, 7, 6, 7]), ([2, 3, 6, 7], [2, 3, 8, 9, 8, 9])]) (H2 := [.box [.str x0, .int .i64 s70.1], .gone, .gone, vecL (encL encSt71 4) 1 69 ([s70.2.2] : List (List St71)), vecL (encL encSt71 4) 1 69 ((s70.2.1 ++ ([s70.2.2] : List (List St71))))]) (by kernel_rfl) hm (fun hc => N.app) (by kernel_rfl) ?_
  refine kD 12 ?_
  refine kEN ?_
  refine kX ?_
  refine PJ.scR ?_
  obtain rfl := oi h144
  refine PJ.wk (Wk.freeze 4 (n := ((s70.2.1 ++ ([s70.2.2] : List (List St71)))).length) (k := 1) (e := 69) (cs := ((s70.2.1 ++ ([s70.2.2] : List (List St71)))).flatMap (encL encSt71 4)) (by kernel_rfl)) ?_
  exact K.retV (H0 := [.box [.str x0, .int .i64 x1]]) [0] (.inr rfl) hFn hFH hFD (by kernel_rfl) (v1 := .tup [lsv (encL encSt71 4) 1 ((s70.2.1 ++ ([s70.2.2] : List (List St71)))), .bool ((decide (s70.1 = (x0.length : Int))))]) (by kernel_rfl) (by kernel_rfl) (by kernel_rfl) (by decide) (by kernel_rfl) (by kernel_rfl) (by kernel_rfl) (by kernel_rfl) (by kernel_rfl)
def rule_tooMany (x0 : List (List St71)) : Option (Bool) :=
 (Option.bind (loopN (fun (s333 : Int × Int) => (bif (decide (s333.2 < (x0.length : Int))) then (Option.bind (bif inR s333.2 x0.length then (loopN (fun (s610 : Int) => (bif (decide (s610 < ((nth x0 s333.2).length : Int))) then (bif inR s610 (nth x0 s333.2).length then (bif (decide (((((nth (nth x0 s333.2) s610).R_).length : Int)) > 20)) then (some (.inr (.inr (.inr (.inr true))))) else (some (.inl (IntKind.wrap .i64 (s610 + 1))))) else none) else (some (.inr (.inl ()))))) big 0) else none) (joinX fun (s604 : Unit) => (some (.inl ((IntKind.wrap .i64 (s333.1 + ((nth x0 s333.2).length : Int))), (IntKind.wrap .i64 (s333.2 + 1))))))) else (some (.inr (.inl s333.1))))) big (0, 0)) (joinX fun (s328 : Int) => (some (decide (s328 > 20)))))
theorem rule_tooMany_ok {x0 : List (List St71)} {r : Bool} (h : rule_tooMany x0 = some r) : SC Tryd.prog 30 [lsv (encL encSt71 4) 1 x0] [] (.bool r) [] := by
 refine kFn (fn := Tryd.f30) (fun F hFn hFH hFD => ?_)
 unfold rule_tooMany at h
 refine kSR ?_
 refine kC 1 [0,2] ?_
 refine kEN ?_
 refine kSR ?_
 refine kC 1 [0,2,3] ?_
 refine kEN ?_
 obtain ⟨y329, hy330, h331⟩ := bindS h
 refine K.cutX (by kernel_rfl) (fun (s328 : Int) => ([(2, .bool false), (3, .int .i64 s328)], [])) y329 ?_ (fun s328 hs => ?_)
 ·refine kSR ?_
  refine kC 3 [2,3,8,9,10] ?_
  refine kEN ?_
  refine K.block 0 (by kernel_rfl) ?_
  refine K.loop (by kernel_rfl) (fun (s333 : Int × Int) => ([(2, .bool false), (3, .int .i64 s333.1), (8, lsv (encL encSt71 4) 1 x0), (9, .int .i64 (x0.length : Int)), (10, .int .i64 s333.2)], [])) hy330 [2, 3, 8, 9, 10] (by kernel_rfl) (by kernel_rfl) (fun s333 x551 hs550 => ?_)
  refine kSR ?_
  refine kC 1 [2,3,8,9,10,11] ?_
  refine kEN ?_
  refine kS ?_
  refine J.caseB 11 (b := (decide (s333.2 < (x0.length : Int)))) (by kernel_rfl) (fun hb552 => ?_) (fun hb552 => ?_)
  ·have h553 := condT hb552 hs550
   refine kT ?_
   refine kK ?_
   refine PJ.next ?_
   obtain ⟨y605, hy606, h607⟩ := bindS h553
   refine K.cutX (by kernel_rfl) (fun (s604 : Unit) => ([(2, .bool false), (3, .int .i64 ((IntKind.wrap .i64 (s333.1 + ((nth x0 s333.2).length : Int))))), (8, lsv (encL encSt71 4) 1 x0), (9, .int .i64 (x0.length : Int)), (10, .int .i64 s333.2)], [])) y605 ?_ (fun s604 hs => ?_)
   ·refine K.block 1 (by kernel_rfl) ?_
    refine kSR ?_
    obtain ⟨hm, h609⟩ := asrt hy606
    refine RJ.rel (d := (some 12)) (ef := ⟨.ep (((x0.flatMap (encL encSt71 4)).drop ((s333.2 : Int).toNat * 1)).take 1), [], []⟩) (ef' := ⟨.ep ((encL encSt71 4) (nth x0 s333.2)), [], []⟩) (c := inR s333.2 x0.length) (tr2 := []) (H2 := []) (by kernel_rfl) hm (fun hc => N.idx (encL_len encSt71 4) hc) (by kernel_rfl) ?_
    refine kC 2 [2,3,5,8,9,10] ?_
    refine kEN ?_
    refine kSR ?_
    refine kC 5 [2,3,5,8,9,10] ?_
    refine kEN ?_
    refine kSR ?_
    refine RJ.seg 3 [2, 3, 8, 9, 10, 18, 19, 20] (L2 := [(2, .bool false), (3, .int .i64 ((IntKind.wrap .i64 (s333.1 + ((nth x0 s333.2).length : Int))))), (8, lsv (encL encSt71 4) 1 x0), (9, .int .i64 (x0.length : Int)), (10, .int .i64 s333.2), (18, lsv encSt71 4 (nth x0 s333.2)), (19, .int .i64 ((nth x0 s333.2).length : Int)), (20, .int .i64 0)]) (H2 := []) (by kernel_rfl) ?_
    refine kEN ?_
    refine K.block 2 (by kernel_rfl) ?_
    refine K.loop (by kernel_rfl) (fun (s610 : Int) => ([(2, .bool false), (3, .int .i64 ((IntKind.wrap .i64 (s333.1 + ((nth x0 s333.2).length : Int))))), (8, lsv (encL encSt71 4) 1 x0), (9, .int .i64 (x0.length : Int)), (10, .int .i64 s333.2), (18, lsv encSt71 4 (nth x0 s333.2)), (19, .int .i64 ((nth x0 s333.2).length : Int)), (20, .int .i64 s610)], [])) h609 [2, 3, 8, 9, 10, 18, 19, 20] (by kernel_rfl) (by kernel_rfl) (fun s610 x642 hs641 => ?_)
    refine kSR ?_
    refine kC 1 [2,3,8,9,10,18,19,20,21] ?_
    refine kEN ?_
    refine kS ?_
    refine J.caseB 21 (b := (decide (s610 < ((nth x0 s333.2).length : Int)))) (by kernel_rfl) (fun hb643 => ?_) (fun hb643 => ?_)
    ·have h644 := condT hb643 hs641
     refine kT ?_
     refine kK ?_
     refine PJ.next ?_
     refine kS ?_
     refine K.block 3 (by kernel_rfl) ?_
     refine kSR ?_
     obtain ⟨hm, h646⟩ := asrt h644
     refine RJ.rel (d := (some 22)) (ef := ⟨.ep ((((nth x0 s333.2).flatMap encSt71).drop ((s610 : Int).toNat * 4)).take 4), [], []⟩) (ef' := ⟨.ep (encSt71 (nth (nth x0 s333.2) s610)), [], []⟩) (c := inR s610 (nth x0 s333.2).length) (tr2 := []) (H2 := []) (by kernel_rfl) hm (fun hc => N.idx encSt71_len hc) (by kernel_rfl) ?_
     refine kC 3 [2,3,7,8,9,10,18,19,20] ?_
     refine kEN ?_
     refine kSR ?_
     refine kC 4 [2,3,8,9,10,18,19,20,27] ?_
     refine kEN ?_
     refine J.caseB 27 (b := (decide (((((nth (nth x0 s333.2) s610).R_).length : Int)) > 20))) (by kernel_rfl) (fun hb647 => ?_) (fun hb647 => ?_)
     ·have h648 := condT hb647 h646
      refine kT ?_
      refine kSR ?_
      refine RJ.seg 1 [2, 3, 8, 9, 10, 18, 19, 20] (L2 := [(2, .bool true), (3, .int .i64 ((IntKind.wrap .i64 (s333.1 + ((nth x0 s333.2).length : Int))))), (8, lsv (encL encSt71 4) 1 x0), (9, .int .i64 (x0.length : Int)), (10, .int .i64 s333.2), (18, lsv encSt71 4 (nth x0 s333.2)), (19, .int .i64 ((nth x0 s333.2).length : Int)), (20, .int .i64 s610)]) (H2 := [.box [.int .u8 ((nth (nth x0 s333.2) s610).Op_), .int .i64 ((nth (nth x0 s333.2) s610).Mod_), .bool ((nth (nth x0 s333.2) s610).Not_), lsv encSt73 2 ((nth (nth x0 s333.2) s610).R_)]]) (by kernel_rfl) ?_
      refine kEN ?_
      refine kX ?_
      refine PJ.blockRet ?_
      refine PJ.passRet ?_
      obtain rfl := oi h648
      refine PJ.loopOut (fun e => nomatch e) (fun he655 => ?_)
      have h650 := congrArg some he655
      refine PJ.blockRet ?_
      refine PJ.blockRet ?_
      obtain rfl := oi h650
      have h651 := joinX_inr h607
      refine PJ.cutXr (fun e => nomatch e) ?_
      obtain rfl := oi h651
      refine PJ.loopOut (fun e => nomatch e) (fun he654 => ?_)
      have h652 := congrArg some he654
      refine PJ.blockRet ?_
      obtain rfl := oi h652
      have h653 := joinX_inr h331
      refine PJ.cutXr (fun e => nomatch e) ?_
      obtain rfl := oi h653
      exact kZ hFn hFH hFD
     ·have h649 := condF hb647 h646
      refine kF ?_
      refine kK ?_
      refine PJ.blockNormal ?_
      refine PJ.next ?_
      refine kR ?_
      refine RJ.seg 2 [2, 3, 8, 9, 10, 18, 19, 20] (L2 := [(2, .bool false), (3, .int .i64 ((IntKind.wrap .i64 (s333.1 + ((nth x0 s333.2).length : Int))))), (8, lsv (encL encSt71 4) 1 x0), (9, .int .i64 (x0.length : Int)), (10, .int .i64 s333.2), (18, lsv encSt71 4 (nth x0 s333.2)), (19, .int .i64 ((nth x0 s333.2).length : Int)), (20, .int .i64 (IntKind.wrap .i64 (s610 + 1)))]) (H2 := [.box [.int .u8 ((nth (nth x0 s333.2) s610).Op_), .int .i64 ((nth (nth x0 s333.2) s610).Mod_), .bool ((nth (nth x0 s333.2) s610).Not_), lsv encSt73 2 ((nth (nth x0 s333.2) s610).R_)]]) (by kernel_rfl) ?_
      refine kE ?_
      obtain rfl := oi h649
      refine PJ.wk (Wk.sel (L2 := [(2, .bool false), (3, .int .i64 ((IntKind.wrap .i64 (s333.1 + ((nth x0 s333.2).length : Int))))), (8, lsv (encL encSt71 4) 1 x0), (9, .int .i64 (x0.length : Int)), (10, .int .i64 s333.2), (18, lsv encSt71 4 (nth x0 s333.2)), (19, .int .i64 ((nth x0 s333.2).length : Int)), (20, .int .i64 (IntKind.wrap .i64 (s610 + 1)))]) (H2 := []) 0 (by rw [hFH]; rfl) hFD [] (by kernel_rfl) (by kernel_rfl) (by decide) (by kernel_rfl) (by kernel_rfl) (by kernel_rfl) (by kernel_rfl)) ?_
      exact PJ.loopNext [2, 3, 8, 9, 10, 18, 19, 20] (by kernel_rfl) (by kernel_rfl)
    ·have h645 := condF hb643 hs641
     refine kF ?_
     refine K.exit 2 (by kernel_rfl) ?_
     refine PJ.passExit ?_
     obtain rfl := oi h645
     refine PJ.loopOut (fun e => nomatch e) (fun he657 => ?_)
     have h656 := congrArg some he657
     refine PJ.blockOut ?_
     refine PJ.blockNormal ?_
     obtain rfl := oi h656
     exact PJ.cutXl [2, 3, 8, 9, 10] (by kernel_rfl) (by kernel_rfl)
   ·subst hs
    have h608 := joinX_inl h607
    refine kR ?_
    refine kC 2 [2,3,8,9,10] ?_
    refine kE ?_
    obtain rfl := oi h608
    exact PJ.loopNext [2, 3, 8, 9, 10] (by kernel_rfl) (by kernel_rfl)
  ·have h554 := condF hb552 hs550
   refine kF ?_
   refine K.exit 0 (by kernel_rfl) ?_
   refine PJ.passExit ?_
   obtain rfl := oi h554
   refine PJ.loopOut (fun e => nomatch e) (fun he659 => ?_)
   have h658 := congrArg some he659
   refine PJ.blockOut ?_
   obtain rfl := oi h658
   exact PJ.cutXl [2, 3] (by kernel_rfl) (by kernel_rfl)
 ·subst hs
  have h332 := joinX_inl h331
  refine kSR ?_
  refine kC 3 [2] ?_
  refine kEN ?_
  refine kX ?_
  obtain rfl := oi h332
  exact kZ hFn hFH hFD
def rule_Parse (x0 : List UInt8) : Option ((List (List St71)) × Int × Int) :=
 (bif (decide ((x0.length : Int) > 400)) then (some (([] : List (List St71)), 0, 11)) else (Option.bind (rule_reader__rows_s0 x0 0) fun y4 => (bif (!y4.2.1) then (some (([] : List (List St71)), y4.2.2, 2)) else (Option.bind (rule_tooMany y4.1) fun y10 => (bif y10 then (some (([] : List (List St71)), 0, 11)) else (some (y4.1, 0, 0)))))))
theorem rule_Parse_ok {x0 : List UInt8} {r : (List (List St71)) × Int × Int} (h : rule_Parse x0 = some r) : SC Tryd.prog 19 [.str x0] [] (.tup [lsv (encL encSt71 4) 1 r.1, .int .i64 r.2.1, .int .i64 r.2.2]) [] := by
 refine kFn (fn := Tryd.f19) (fun F hFn hFH hFD => ?_)
 unfold rule_Parse at h
 refine kSR ?_
 refine kC 3 [0,2,3,4] ?_
 refine kEN ?_
 refine kS ?_
 refine kSR ?_
 refine kC 3 [0,2,3,4,10] ?_
 refine kEN ?_
 refine J.caseB 10 (b := (decide ((x0.length : Int) > 400))) (by kernel_rfl) (fun hb1 => ?_) (fun hb1 => ?_)
 ·have h2 := condT hb1 h
  refine kT ?_
  refine kSR ?_
  refine kC 3 [0,2,3,4] ?_
  refine kEN ?_
  refine kX ?_
  refine PJ.passRet ?_
  obtain rfl := oi h2
  refine PJ.res (v1 := .tup [.nl, .int .i64 0, .int .i64 11]) (Le.tup (.cons (Le.nl _) (.cons (Le.refl _) (.cons (Le.refl _) .nil)))) ?_
  exact kZ hFn hFH hFD
 ·have h3 := condF hb1 h
  refine kF ?_
  refine kK ?_
  refine PJ.next ?_
  refine kSR ?_
  refine kC 4 [2,3,4,5] ?_
  refine kEN ?_
  refine kSR ?_
  refine RJ.seg 1 [2, 3, 4, 5, 15] (L2 := [(2, .nl), (3, .int .i64 0), (4, .int .i64 0), (5, .ptr 0 0), (15, .ptr 0 0)]) (H2 := [.box [.str x0, .int .i64 0]]) (by kernel_rfl) ?_
  obtain ⟨y4, hy5, h6⟩ := bindS h3
  refine RJ.callG (d := (some 16)) (f := 29) (args := [.ptr 0 0]) (args0 := [.ptr 0 0]) (v0 := .tup [lsv (encL encSt71 4) 1 y4.1, .bool y4.2.1]) (v := .tup [lsv (encL encSt71 4) 1 y4.1, .bool y4.2.1]) (tr2 := []) (H0 := [.box [.str x0, .int .i64 0]]) (H0' := [.box [.str x0, .int .i64 y4.2.2]]) (H2 := [.box [.str x0, .int .i64 y4.2.2]]) [0] (by kernel_rfl) (by kernel_rfl) (by kernel_rfl) (by kernel_rfl) (by decide) (by kernel_rfl) (by kernel_rfl) (by kernel_rfl) (.cons (Le.refl _) .nil) (rule_reader__rows_s0_ok hy5) (by kernel_rfl) (by kernel_rfl) (by kernel_rfl) ?_
  refine kC 5 [2,3,4,5,6,7] ?_
  refine kEN ?_
  refine kS ?_
  refine kSR ?_
  refine kC 2 [2,3,4,5,6,20] ?_
  refine kEN ?_
  refine J.caseB 20 (b := (!y4.2.1)) (by kernel_rfl) (fun hb7 => ?_) (fun hb7 => ?_)
  ·have h8 := condT hb7 h6
   refine kT ?_
   refine kS ?_
   refine J.keep [2, 3, 4, 5, 6] (L2 := [(2, .nl), (3, .int .i64 0), (4, .int .i64 0), (5, .ptr 0 0), (6, lsv (encL encSt71 4) 1 y4.1)]) (by kernel_rfl) ?_
   refine K.draw (by kernel_rfl) (by kernel_rfl) (by kernel_rfl) (H2 := [.box [.str x0, .int .i64 y4.2.2]]) (by kernel_rfl) (n := 1) (by kernel_rfl) ?_
   refine kD 7 ?_
   refine kEN ?_
   refine kX ?_
   refine PJ.passRet ?_
   obtain rfl := oi h8
   refine PJ.res (v1 := .tup [.nl, .int .i64 y4.2.2, .int .i64 2]) (Le.tup (.cons (Le.nl _) (.cons (Le.refl _) (.cons (Le.refl _) .nil)))) ?_
   exact kZ hFn hFH hFD
  ·have h9 := condF hb7 h6
   refine kF ?_
   refine kK ?_
   refine PJ.next ?_
   refine kS ?_
   refine kSR ?_
   refine kC 1 [2,3,4,6,25] ?_
   obtain ⟨y10, hy11, h12⟩ := bindS h9
   refine RJ.call0 (d := (some 26)) (f := 30) (args := [lsv (encL encSt71 4) 1 y4.1]) (v := .bool y10) (tr2 := []) (by kernel_rfl) (by kernel_rfl) (.cons (Le.refl _) .nil) (rule_tooMany_ok hy11) (by kernel_rfl) ?_
   refine kEN ?_
   refine J.caseB 26 (b := y10) (by kernel_rfl) (fun hb13 => ?_) (fun hb13 => ?_)
   ·have h14 := condT hb13 h12
    refine kT ?_
    refine kSR ?_
    refine RJ.seg 3 [2, 3, 4, 6] (L2 := [(2, .nl), (3, .int .i64 0), (4, .int .i64 11), (6, lsv (encL encSt71 4) 1 y4.1)]) (H2 := [.box [.str x0, .int .i64 y4.2.2]]) (by kernel_rfl) ?_
    refine kEN ?_
    refine kX ?_
    refine PJ.passRet ?_
    obtain rfl := oi h14
    refine PJ.res (v1 := .tup [.nl, .int .i64 0, .int .i64 11]) (Le.tup (.cons (Le.nl _) (.cons (Le.refl _) (.cons (Le.refl _) .nil)))) ?_
    exact kZ hFn hFH hFD
   ·have h15 := condF hb13 h12
    refine kF ?_
    refine kK ?_
    refine PJ.next ?_
    refine kSR ?_
    refine RJ.seg 4 [2, 3, 4] (L2 := [(2, lsv (encL encSt71 4) 1 y4.1), (3, .int .i64 0), (4, .int .i64 0)]) (H2 := [.box [.str x0, .int .i64 y4.2.2]]) (by kernel_rfl) ?_
    refine kEN ?_
    refine kX ?_
    obtain rfl := oi h15
    exact kZ hFn hFH hFD
def k0_ : List UInt8 := [48, 48, 48, 49, 48, 50, 48, 51, 48, 52, 48, 53, 48, 54, 48, 55, 48, 56, 48, 57, 49, 48, 49, 49, 49, 50, 49, 51, 49, 52, 49, 53, 49, 54, 49, 55, 49, 56, 49, 57, 50, 48, 50, 49, 50, 50, 50, 51, 50, 52, 50, 53, 50, 54, 50, 55, 50, 56, 50, 57, 51, 48, 51, 49, 51, 50, 51, 51, 51, 52, 51, 53, 51, 54, 51, 55, 51, 56, 51, 57, 52, 48, 52, 49, 52, 50, 52, 51, 52, 52, 52, 53, 52, 54, 52, 55, 52, 56, 52, 57, 53, 48, 53, 49, 53, 50, 53, 51, 53, 52, 53, 53, 53, 54, 53, 55, 53, 56, 53, 57, 54, 48, 54, 49, 54, 50, 54, 51, 54, 52, 54, 53, 54, 54, 54, 55, 54, 56, 54, 57, 55, 48, 55, 49, 55, 50, 55, 51, 55, 52, 55, 53, 55, 54, 55, 55, 55, 56, 55, 57, 56, 48, 56, 49, 56, 50, 56, 51, 56, 52, 56, 53, 56, 54, 56, 55, 56, 56, 56, 57, 57, 48, 57, 49, 57, 50, 57, 51, 57, 52, 57, 53, 57, 54, 57, 55, 57, 56, 57, 57]
def strconv_small (x0 : Int) : Option (List UInt8) :=
 (bif (decide (x0 < 10)) then (bif inS x0 (IntKind.wrap .i64 (x0 + 1)) ([48, 49, 50, 51, 52, 53, 54, 55, 56, 57, 97, 98, 99, 100, 101, 102, 103, 104, 105, 106, 107, 108, 109, 110, 111, 112, 113, 114, 115, 116, 117, 118, 119, 120, 121, 122] : List UInt8).length then (some (cut ([48, 49, 50, 51, 52, 53, 54, 55, 56, 57, 97, 98, 99, 100, 101, 102, 103, 104, 105, 106, 107, 108, 109, 110, 111, 112, 113, 114, 115, 116, 117, 118, 119, 120, 121, 122] : List UInt8) x0 (IntKind.wrap .i64 (x0 + 1)))) else none) else (bif inS (IntKind.wrap .i64 (x0 * 2)) ((IntKind.wrap .i64 ((IntKind.wrap .i64 (x0 * 2)) + 2))) k0_.length then (some (cut k0_ (IntKind.wrap .i64 (x0 * 2)) ((IntKind.wrap .i64 ((IntKind.wrap .i64 (x0 * 2)) + 2))))) else none))
theorem strconv_small_ok {x0 : Int} {r : List UInt8} (h : strconv_small x0 = some r) : SC Tryd.prog 93 [.int .i64 x0] [] (.str r) [] := by
 refine kFn (fn := Tryd.f93) (fun F hFn hFH hFD => ?_)
 unfold strconv_small at h
 refine kSR ?_
 refine kC 1 [0,2] ?_
 refine kEN ?_
 refine kS ?_
 refine kSR ?_
 refine kC 2 [0,2,4] ?_
 refine kEN ?_
 refine J.caseB 4 (b := (decide (x0 < 10))) (by kernel_rfl) (fun hb1 => ?_) (fun hb1 => ?_)
 ·have h2 := condT hb1 h
  refine kT ?_
  refine kSR ?_
  refine kC 3 [0,2,5,7] ?_
  obtain ⟨hm, h4⟩ := asrt h2
  refine RJ.rel (d := (some 8)) (ef := ⟨.str (cut ([48, 49, 50, 51, 52, 53, 54, 55, 56, 57, 97, 98, 99, 100, 101, 102, 103, 104, 105, 106, 107, 108, 109, 110, 111, 112, 113, 114, 115, 116, 117, 118, 119, 120, 121, 122] : List UInt8) x0 (IntKind.wrap .i64 (x0 + 1))), [], []⟩) (ef' := ⟨.str (cut ([48, 49, 50, 51, 52, 53, 54, 55, 56, 57, 97, 98, 99, 100, 101, 102, 103, 104, 105, 106, 107, 108, 109, 110, 111, 112, 113, 114, 115, 116, 117, 118, 119, 120, 121, 122] : List UInt8) x0 (IntKind.wrap .i64 (x0 + 1))), [], []⟩) (c := inS x0 (IntKind.wrap .i64 (x0 + 1)) ([48, 49, 50, 51, 52, 53, 54, 55, 56, 57, 97, 98, 99, 100, 101, 102, 103, 104, 105, 106, 107, 108, 109, 110, 111, 112, 113, 114, 115, 116, 117, 118, 119, 120, 121, 122] : List UInt8).length) (tr2 := []) (H2 := []) (by kernel_rfl) hm (fun hc => rfl) (by kernel_rfl) ?_
  refine RJ.seg 1 [0, 2] (L2 := [(0, .int .i64 x0), (2, .str ((cut ([48, 49, 50, 51, 52, 53, 54, 55, 56, 57, 97, 98, 99, 100, 101, 102, 103, 104, 105, 106, 107, 108, 109, 110, 111, 112, 113, 114, 115, 116, 117, 118, 119, 120, 121, 122] : List UInt8) x0 (IntKind.wrap .i64 (x0 + 1)))))]) (H2 := []) (by kernel_rfl) ?_
  refine kEN ?_
  refine kX ?_
  refine PJ.passRet ?_
  obtain rfl := oi h4
  exact kZ hFn hFH hFD
 ·have h3 := condF hb1 h
  refine kF ?_
  refine kK ?_
  refine PJ.next ?_
  refine kSR ?_
  refine kC 5 [2,10,13] ?_
  obtain ⟨hm, h5⟩ := asrt h3
  refine RJ.rel (d := (some 14)) (ef := ⟨.str (cut k0_ (IntKind.wrap .i64 (x0 * 2)) ((IntKind.wrap .i64 ((IntKind.wrap .i64 (x0 * 2)) + 2)))), [], []⟩) (ef' := ⟨.str (cut k0_ (IntKind.wrap .i64 (x0 * 2)) ((IntKind.wrap .i64 ((IntKind.wrap .i64 (x0 * 2)) + 2)))), [], []⟩) (c := inS (IntKind.wrap .i64 (x0 * 2)) ((IntKind.wrap .i64 ((IntKind.wrap .i64 (x0 * 2)) + 2))) k0_.length) (tr2 := []) (H2 := []) (by kernel_rfl) hm (fun hc => rfl) (by kernel_rfl) ?_
  refine RJ.seg 1 [2] (L2 := [(2, .str ((cut k0_ (IntKind.wrap .i64 (x0 * 2)) ((IntKind.wrap .i64 ((IntKind.wrap .i64 (x0 * 2)) + 2))))))]) (H2 := []) (by kernel_rfl) ?_
  refine kEN ?_
  refine kX ?_
  obtain rfl := oi h5
  exact kZ hFn hFH hFD
def k1_ : List UInt8 := [0, 1, 2, 2, 3, 3, 3, 3, 4, 4, 4, 4, 4, 4, 4, 4, 5, 5, 5, 5, 5, 5, 5, 5, 5, 5, 5, 5, 5, 5, 5, 5, 6, 6, 6, 6, 6, 6, 6, 6, 6, 6, 6, 6, 6, 6, 6, 6, 6, 6, 6, 6, 6, 6, 6, 6, 6, 6, 6, 6, 6, 6, 6, 6, 7, 7, 7, 7, 7, 7, 7, 7, 7, 7, 7, 7, 7, 7, 7, 7, 7, 7, 7, 7, 7, 7, 7, 7, 7, 7, 7, 7, 7, 7, 7, 7, 7, 7, 7, 7, 7, 7, 7, 7, 7, 7, 7, 7, 7, 7, 7, 7, 7, 7, 7, 7, 7, 7, 7, 7, 7, 7, 7, 7, 7, 7, 7, 7, 8, 8, 8, 8, 8, 8, 8, 8, 8, 8, 8, 8, 8, 8, 8, 8, 8, 8, 8, 8, 8, 8, 8, 8, 8, 8, 8, 8, 8, 8, 8, 8, 8, 8, 8, 8, 8, 8, 8, 8, 8, 8, 8, 8, 8, 8, 8, 8, 8, 8, 8, 8, 8, 8, 8, 8, 8, 8, 8, 8, 8, 8, 8, 8, 8, 8, 8, 8, 8, 8, 8, 8, 8, 8, 8, 8, 8, 8, 8, 8, 8, 8, 8, 8, 8, 8, 8, 8, 8, 8, 8, 8, 8, 8, 8, 8, 8, 8, 8, 8, 8, 8, 8, 8, 8, 8, 8, 8, 8, 8, 8, 8, 8, 8, 8, 8, 8, 8, 8, 8, 8, 8, 8, 8, 8, 8, 8, 8]
def bits_Len64 (x0 : Int) : Option (Int) :=
 (Option.bind (bif (decide (x0 ≥ 4294967296)) then (some ((Int.fdiv x0 4294967296), 32)) else (some (x0, 0))) fun (s4 : Int × Int) => (Option.bind (bif (decide (s4.1 ≥ 65536)) then (some ((Int.fdiv s4.1 65536), (IntKind.wrap .i64 (s4.2 + 16)))) else (some (s4.1, s4.2))) fun (s15 : Int × Int) => (Option.bind (bif (decide (s15.1 ≥ 256)) then (some ((Int.fdiv s15.1 256), (IntKind.wrap .i64 (s15.2 + 8)))) else (some (s15.1, s15.2))) fun (s26 : Int × Int) => (bif inR (IntKind.wrap .u8 s26.1) k1_.length then (some (IntKind.wrap .i64 (s26.2 + ((IntKind.wrap .i64 ((((k1_.getD ((IntKind.wrap .u8 s26.1) : Int).toNat 0).toNat : Nat) : Int))))))) else none))))
theorem bits_Len64_ok {x0 : Int} {r : Int} (h : bits_Len64 x0 = some r) : SC Tryd.prog 104 [.int .u64 x0] [] (.int .i64 r) [] := by
 refine kFn (fn := Tryd.f104) (fun F hFn hFH hFD => ?_)
 unfold bits_Len64 at h
 refine kSR ?_
 refine kC 1 [0,2] ?_
 refine kEN ?_
 obtain ⟨s4, hy6, h8⟩ := bindS h
 refine K.cutN (by kernel_rfl) (fun (s4 : Int × Int) => ([(0, .int .u64 s4.1), (2, .int .i64 s4.2)], [])) s4 ?_ ?_
 ·refine kSR ?_
  refine kC 2 [0,2,4] ?_
  refine kEN ?_
  refine J.caseB 4 (b := (decide (x0 ≥ 4294967296))) (by kernel_rfl) (fun hb9 => ?_) (fun hb9 => ?_)
  ·have h10 := condT hb9 hy6
   refine kT ?_
   refine kSR ?_
   refine kC 3 [0,2] ?_
   refine kEN ?_
   refine kR ?_
   refine RJ.seg 1 [0, 2] (L2 := [(0, .int .u64 (Int.fdiv x0 4294967296)), (2, .int .i64 32)]) (H2 := []) (by kernel_rfl) ?_
   refine kE ?_
   obtain rfl := oi h10
   exact kN [0, 2]
  ·have h11 := condF hb9 hy6
   refine kF ?_
   refine kK ?_
   obtain rfl := oi h11
   exact kN [0, 2]
 ·obtain ⟨s15, hy17, h19⟩ := bindS h8
  refine K.cutN (by kernel_rfl) (fun (s15 : Int × Int) => ([(0, .int .u64 s15.1), (2, .int .i64 s15.2)], [])) s15 ?_ ?_
  ·refine kSR ?_
   refine kC 2 [0,2,8] ?_
   refine kEN ?_
   refine J.caseB 8 (b := (decide (s4.1 ≥ 65536))) (by kernel_rfl) (fun hb20 => ?_) (fun hb20 => ?_)
   ·have h21 := condT hb20 hy17
    refine kT ?_
    refine kSR ?_
    refine kC 3 [0,2] ?_
    refine kEN ?_
    refine kR ?_
    refine kC 3 [0,2] ?_
    refine kE ?_
    obtain rfl := oi h21
    exact kN [0, 2]
   ·have h22 := condF hb20 hy17
    refine kF ?_
    refine kK ?_
    obtain rfl := oi h22
    exact kN [0, 2]
  ·obtain ⟨s26, hy28, h30⟩ := bindS h19
   refine K.cutN (by kernel_rfl) (fun (s26 : Int × Int) => ([(0, .int .u64 s26.1), (2, .int .i64 s26.2)], [])) s26 ?_ ?_
   ·refine kSR ?_
    refine kC 2 [0,2,14] ?_
    refine kEN ?_
    refine J.caseB 14 (b := (decide (s15.1 ≥ 256))) (by kernel_rfl) (fun hb31 => ?_) (fun hb31 => ?_)
    ·have h32 := condT hb31 hy28
     refine kT ?_
     refine kSR ?_
     refine kC 3 [0,2] ?_
     refine kEN ?_
     refine kR ?_
     refine kC 3 [0,2] ?_
     refine kE ?_
     obtain rfl := oi h32
     exact kN [0, 2]
    ·have h33 := condF hb31 hy28
     refine kF ?_
     refine kK ?_
     obtain rfl := oi h33
     exact kN [0, 2]
   ·refine kSR ?_
    refine kC 3 [2,19,21] ?_
    obtain ⟨hm, h34⟩ := asrt h30
    refine RJ.rel (d := (some 22)) (ef := ⟨.int .u8 (((k1_.getD ((IntKind.wrap .u8 s26.1) : Int).toNat 0).toNat : Nat) : Int), [], []⟩) (ef' := ⟨.int .u8 (((k1_.getD ((IntKind.wrap .u8 s26.1) : Int).toNat 0).toNat : Nat) : Int), [], []⟩) (c := inR (IntKind.wrap .u8 s26.1) k1_.length) (tr2 := []) (H2 := []) (by kernel_rfl) hm (fun hc => rfl) (by kernel_rfl) ?_
    refine kC 3 [2] ?_
    refine kEN ?_
    refine kX ?_
    obtain rfl := oi h34
    exact kZ hFn hFH hFD
def strconv_log10Pow2 (x0 : Int) : Option (Int) :=
 (some (Int.fdiv (IntKind.wrap .i64 (x0 * 78913)) 262144))
theorem strconv_log10Pow2_ok {x0 : Int} {r : Int} (h : strconv_log10Pow2 x0 = some r) : SC Tryd.prog 103 [.int .i64 x0] [] (.int .i64 r) [] := by
 refine kFn (fn := Tryd.f103) (fun F hFn hFH hFD => ?_)
 unfold strconv_log10Pow2 at h
 refine kSR ?_
 refine kC 1 [0,2] ?_
 refine kEN ?_
 refine kSR ?_
 refine kC 4 [2] ?_
 refine kEN ?_
 refine kX ?_
 obtain rfl := oi h
 exact kZ hFn hFH hFD
def k2_ : List Int := [1, 10, 100, 1000, 10000, 100000, 1000000, 10000000, 100000000, 1000000000, 10000000000, 100000000000, 1000000000000, 10000000000000, 100000000000000, 1000000000000000, 10000000000000000, 100000000000000000, 1000000000000000000, 10000000000000000000]
def strconv_bool2 (x0 : Bool) : Option (Int) :=
 (bif x0 then (some 1) else (some 0))
theorem strconv_bool2_ok {x0 : Bool} {r : Int} (h : strconv_bool2 x0 = some r) : SC Tryd.prog 105 [.bool x0] [] (.int .i64 r) [] := by
 refine kFn (fn := Tryd.f105) (fun F hFn hFH hFD => ?_)
 unfold strconv_bool2 at h
 refine kSR ?_
 refine kC 1 [0,2] ?_
 refine kEN ?_
 refine kS ?_
 refine kSR ?_
 refine kC 1 [2,3] ?_
 refine kEN ?_
 refine J.caseB 3 (b := x0) (by kernel_rfl) (fun hb1 => ?_) (fun hb1 => ?_)
 ·have h2 := condT hb1 h
  refine kT ?_
  refine kSR ?_
  refine kC 1 [2] ?_
  refine kEN ?_
  refine kX ?_
  refine PJ.passRet ?_
  obtain rfl := oi h2
  exact kZ hFn hFH hFD
 ·have h3 := condF hb1 h
  refine kF ?_
  refine kK ?_
  refine PJ.next ?_
  refine kSR ?_
  refine kC 1 [2] ?_
  refine kEN ?_
  refine kX ?_
  obtain rfl := oi h3
  exact kZ hFn hFH hFD
def strconv_numDigits (x0 : Int) : Option (Int) :=
 (Option.bind (bits_Len64 x0) fun y1 => (Option.bind (strconv_log10Pow2 y1) fun y4 => (bif inR y4 20 then (Option.bind (strconv_bool2 ((decide (x0 ≥ (nth k2_ y4))))) fun y8 => (some (IntKind.wrap .i64 (y4 + y8)))) else none)))
theorem strconv_numDigits_ok {x0 : Int} {r : Int} (h : strconv_numDigits x0 = some r) : SC Tryd.prog 94 [.int .u64 x0] [] (.int .i64 r) [] := by
 refine kFn (fn := Tryd.f94) (fun F hFn hFH hFD => ?_)
 unfold strconv_numDigits at h
 refine kSR ?_
 refine kC 1 [0,2] ?_
 refine kEN ?_
 refine kSR ?_
 refine kC 1 [0,2,4] ?_
 obtain ⟨y1, hy2, h3⟩ := bindS h
 refine RJ.call0 (d := (some 5)) (f := 104) (args := [.int .u64 x0]) (v := .int .i64 y1) (tr2 := []) (by kernel_rfl) (by kernel_rfl) (.cons (Le.refl _) .nil) (bits_Len64_ok hy2) (by kernel_rfl) ?_
 obtain ⟨y4, hy5, h6⟩ := bindS h3
 refine RJ.call0 (d := (some 6)) (f := 103) (args := [.int .i64 y1]) (v := .int .i64 y4) (tr2 := []) (by kernel_rfl) (by kernel_rfl) (.cons (Le.refl _) .nil) (strconv_log10Pow2_ok hy5) (by kernel_rfl) ?_
 refine kC 1 [0,2,3] ?_
 refine kEN ?_
 refine kSR ?_
 refine RJ.seg 3 [2, 7, 8, 9] (L2 := [(2, .int .i64 0), (7, .int .i64 y4), (8, .int .u64 x0), (9, .int .i64 y4)]) (H2 := []) (by kernel_rfl) ?_
 obtain ⟨hm, h7⟩ := asrt h6
 refine RJ.rel (d := (some 10)) (ef := ⟨.ep (((k2_.flatMap (encI .u64)).drop ((y4 : Int).toNat * 1)).take 1), [], []⟩) (ef' := ⟨.ep ((encI .u64) (nth k2_ y4)), [], []⟩) (c := inR y4 20) (tr2 := []) (H2 := []) (by kernel_rfl) hm (fun hc => N.idx (encI_len .u64) hc) (by kernel_rfl) ?_
 refine kC 2 [2,7,12] ?_
 obtain ⟨y8, hy9, h10⟩ := bindS h7
 refine RJ.call0 (d := (some 13)) (f := 105) (args := [.bool ((decide (x0 ≥ (nth k2_ y4))))]) (v := .int .i64 y8) (tr2 := []) (by kernel_rfl) (by kernel_rfl) (.cons (Le.refl _) .nil) (strconv_bool2_ok hy9) (by kernel_rfl) ?_
 refine kC 2 [2] ?_
 refine kEN ?_
 refine kX ?_
 obtain rfl := oi h10
 exact kZ hFn hFH hFD
def strconv_formatBase10_s0 (x0 : Int) (x1 : Int) (x2 : List Int) : Option ((List Int)) :=
 (Option.bind (loopN (fun (s96 : Int × Int × (List Int)) => (bif (decide (s96.2.1 ≥ 8)) then (bif inR ((IntKind.wrap .u32 (((IntKind.wrap .u32 (((Int.tmod ((Int.tmod (IntKind.wrap .u32 (Int.tmod s96.1 100000000)) 10000)) 100)) * 2))) + 1))) k0_.length then (bif inR ((IntKind.wrap .u32 (((Int.tmod ((Int.tmod (IntKind.wrap .u32 (Int.tmod s96.1 100000000)) 10000)) 100)) * 2))) k0_.length then (bif inR (IntKind.wrap .i64 (s96.2.1 - 1)) x0.toNat then (bif inP 0 (IntKind.wrap .i64 (s96.2.1 - 1)) s96.2.2.length then (bif inR (IntKind.wrap .i64 (s96.2.1 - 2)) x0.toNat then (bif inP 0 (IntKind.wrap .i64 (s96.2.1 - 2)) ((setAt s96.2.2 ((0 : Nat) + (IntKind.wrap .i64 (s96.2.1 - 1)) : Int) ((((k0_.getD ((IntKind.wrap .u32 (((IntKind.wrap .u32 (((Int.tmod ((Int.tmod (IntKind.wrap .u32 (Int.tmod s96.1 100000000)) 10000)) 100)) * 2))) + 1)) : Int).toNat 0).toNat : Nat) : Int)))).length then (bif inR ((IntKind.wrap .u32 (((IntKind.wrap .u32 (((IntKind.wrap .u32 (Int.tdiv ((Int.tmod (IntKind.wrap .u32 (Int.tmod s96.1 100000000)) 10000)) 100))) * 2))) + 1))) k0_.length then (bif inR ((IntKind.wrap .u32 (((IntKind.wrap .u32 (Int.tdiv ((Int.tmod (IntKind.wrap .u32 (Int.tmod s96.1 100000000)) 10000)) 100))) * 2))) k0_.length then (bif inR (IntKind.wrap .i64 (s96.2.1 - 3)) x0.toNat then (bif inP 0 (IntKind.wrap .i64 (s96.2.1 - 3)) ((setAt ((setAt s96.2.2 ((0 : Nat) + (IntKind.wrap .i64 (s96.2.1 - 1)) : Int) ((((k0_.getD ((IntKind.wrap .u32 (((IntKind.wrap .u32 (((Int.tmod ((Int.tmod (IntKind.wrap .u32 (Int.tmod s96.1 100000000)) 10000)) 100)) * 2))) + 1)) : Int).toNat 0).toNat : Nat) : Int)))) ((0 : Nat) + (IntKind.wrap .i64 (s96.2.1 - 2)) : Int) ((((k0_.getD ((IntKind.wrap .u32 (((Int.tmod ((Int.tmod (IntKind.wrap .u32 (Int.tmod s96.1 100000000)) 10000)) 100)) * 2)) : Int).toNat 0).toNat : Nat) : Int)))).length then (bif inR (IntKind.wrap .i64 (s96.2.1 - 4)) x0.toNat then (bif inP 0 (IntKind.wrap .i64 (s96.2.1 - 4)) ((setAt ((setAt ((setAt s96.2.2 ((0 : Nat) + (IntKind.wrap .i64 (s96.2.1 - 1)) : Int) ((((k0_.getD ((IntKind.wrap .u32 (((IntKind.wrap .u32 (((Int.tmod ((Int.tmod (IntKind.wrap .u32 (Int.tmod s96.1 100000000)) 10000)) 100)) * 2))) + 1)) : Int).toNat 0).toNat : Nat) : Int)))) ((0 : Nat) + (IntKind.wrap .i64 (s96.2.1 - 2)) : Int) ((((k0_.getD ((IntKind.wrap .u32 (((Int.tmod ((Int.tmod (IntKind.wrap .u32 (Int.tmod s96.1 100000000)) 10000)) 100)) * 2)) : Int).toNat 0).toNat : Nat) : Int)))) ((0 : Nat) + (IntKind.wrap .i64 (s96.2.1 - 3)) : Int) ((((k0_.getD ((IntKind.wrap .u32 (((IntKind.wrap .u32 (((IntKind.wrap .u32 (Int.tdiv ((Int.tmod (IntKind.wrap .u32 (Int.tmod s96.1 100000000)) 10000)) 100))) * 2))) + 1)) : Int).toNat 0).toNat : Nat) : Int)))).length then (bif inR ((IntKind.wrap .u32 (((IntKind.wrap .u32 (((Int.tmod ((IntKind.wrap .u32 (Int.tdiv (IntKind.wrap .u32 (Int.tmod s96.1 100000000)) 10000))) 100)) * 2))) + 1))) k0_.length then (bif inR ((IntKind.wrap .u32 (((Int.tmod ((IntKind.wrap .u32 (Int.tdiv (IntKind.wrap .u32 (Int.tmod s96.1 100000000)) 10000))) 100)) * 2))) k0_.length then (bif inR (IntKind.wrap .i64 (s96.2.1 - 5)) x0.toNat then (bif inP 0 (IntKind.wrap .i64 (s96.2.1 - 5)) ((setAt ((setAt ((setAt ((setAt s96.2.2 ((0 : Nat) + (IntKind.wrap .i64 (s96.2.1 - 1)) : Int) ((((k0_.getD ((IntKind.wrap .u32 (((IntKind.wrap .u32 (((Int.tmod ((Int.tmod (IntKind.wrap .u32 (Int.tmod s96.1 100000000)) 10000)) 100)) * 2))) + 1)) : Int).toNat 0).toNat : Nat) : Int)))) ((0 : Nat) + (IntKind.wrap .i64 (s96.2.1 - 2)) : Int) ((((k0_.getD ((IntKind.wrap .u32 (((Int.tmod ((Int.tmod (IntKind.wrap .u32 (Int.tmod s96.1 100000000)) 10000)) 100)) * 2)) : Int).toNat 0).toNat : Nat) : Int)))) ((0 : Nat) + (IntKind.wrap .i64 (s96.2.1 - 3)) : Int) ((((k0_.getD ((IntKind.wrap .u32 (((IntKind.wrap .u32 (((IntKind.wrap .u32 (Int.tdiv ((Int.tmod (IntKind.wrap .u32 (Int.tmod s96.1 100000000)) 10000)) 100))) * 2))) + 1)) : Int).toNat 0).toNat : Nat) : Int)))) ((0 : Nat) + (IntKind.wrap .i64 (s96.2.1 - 4)) : Int) ((((k0_.getD ((IntKind.wrap .u32 (((IntKind.wrap .u32 (Int.tdiv ((Int.tmod (IntKind.wrap .u32 (Int.tmod s96.1 100000000)) 10000)) 100))) * 2)) : Int).toNat 0).toNat : Nat) : Int)))).length then (bif inR (IntKind.wrap .i64 (s96.2.1 - 6)) x0.toNat then (bif inP 0 (IntKind.wrap .i64 (s96.2.1 - 6)) ((setAt ((setAt ((setAt ((setAt ((setAt s96.2.2 ((0 : Nat) + (IntKind.wrap .i64 (s96.2.1 - 1)) : Int) ((((k0_.getD ((IntKind.wrap .u32 (((IntKind.wrap .u32 (((Int.tmod ((Int.tmod (IntKind.wrap .u32 (Int.tmod s96.1 100000000)) 10000)) 100)) * 2))) + 1)) : Int).toNat 0).toNat : Nat) : Int)))) ((0 : Nat) + (IntKind.wrap .i64 (s96.2.1 - 2)) : Int) ((((k0_.getD ((IntKind.wrap .u32 (((Int.tmod ((Int.tmod (IntKind.wrap .u32 (Int.tmod s96.1 100000000)) 10000)) 100)) * 2)) : Int).toNat 0).toNat : Nat) : Int)))) ((0 : Nat) + (IntKind.wrap .i64 (s96.2.1 - 3)) : Int) ((((k0_.getD ((IntKind.wrap .u32 (((IntKind.wrap .u32 (((IntKind.wrap .u32 (Int.tdiv ((Int.tmod (IntKind.wrap .u32 (Int.tmod s96.1 100000000)) 10000)) 100))) * 2))) + 1)) : Int).toNat 0).toNat : Nat) : Int)))) ((0 : Nat) + (IntKind.wrap .i64 (s96.2.1 - 4)) : Int) ((((k0_.getD ((IntKind.wrap .u32 (((IntKind.wrap .u32 (Int.tdiv ((Int.tmod (IntKind.wrap .u32 (Int.tmod s96.1 100000000)) 10000)) 100))) * 2)) : Int).toNat 0).toNat : Nat) : Int)))) ((0 : Nat) + (IntKind.wrap .i64 (s96.2.1 - 5)) : Int) ((((k0_.getD ((IntKind.wrap .u32 (((IntKind.wrap .u32 (((Int.tmod ((IntKind.wrap .u32 (Int.tdiv (IntKind.wrap .u32 (Int.tmod s96.1 100000000)) 10000))) 100)) * 2))) + 1)) : Int).toNat 0).toNat : Nat) : Int)))).length then (bif inR ((IntKind.wrap .u32 (((IntKind.wrap .u32 (((IntKind.wrap .u32 (Int.tdiv ((IntKind.wrap .u32 (Int.tdiv (IntKind.wrap .u32 (Int.tmod s96.1 100000000)) 10000))) 100))) * 2))) + 1))) k0_.length then (bif inR ((IntKind.wrap .u32 (((IntKind.wrap .u32 (Int.tdiv ((IntKind.wrap .u32 (Int.tdiv (IntKind.wrap .u32 (Int.tmod s96.1 100000000)) 10000))) 100))) * 2))) k0_.length then (bif inR (IntKind.wrap .i64 (s96.2.1 - 7)) x0.toNat then (bif inP 0 (IntKind.wrap .i64 (s96.2.1 - 7)) ((setAt ((setAt ((setAt ((setAt ((setAt ((setAt s96.2.2 ((0 : Nat) + (IntKind.wrap .i64 (s96.2.1 - 1)) : Int) ((((k0_.getD ((IntKind.wrap .u32 (((IntKind.wrap .u32 (((Int.tmod ((Int.tmod (IntKind.wrap .u32 (Int.tmod s96.1 100000000)) 10000)) 100)) * 2))) + 1)) : Int).toNat 0).toNat : Nat) : Int)))) ((0 : Nat) + (IntKind.wrap .i64 (s96.2.1 - 2)) : Int) ((((k0_.getD ((IntKind.wrap .u32 (((Int.tmod ((Int.tmod (IntKind.wrap .u32 (Int.tmod s96.1 100000000)) 10000)) 100)) * 2)) : Int).toNat 0).toNat : Nat) : Int)))) ((0 : Nat) + (IntKind.wrap .i64 (s96.2.1 - 3)) : Int) ((((k0_.getD ((IntKind.wrap .u32 (((IntKind.wrap .u32 (((IntKind.wrap .u32 (Int.tdiv ((Int.tmod (IntKind.wrap .u32 (Int.tmod s96.1 100000000)) 10000)) 100))) * 2))) + 1)) : Int).toNat 0).toNat : Nat) : Int)))) ((0 : Nat) + (IntKind.wrap .i64 (s96.2.1 - 4)) : Int) ((((k0_.getD ((IntKind.wrap .u32 (((IntKind.wrap .u32 (Int.tdiv ((Int.tmod (IntKind.wrap .u32 (Int.tmod s96.1 100000000)) 10000)) 100))) * 2)) : Int).toNat 0).toNat : Nat) : Int)))) ((0 : Nat) + (IntKind.wrap .i64 (s96.2.1 - 5)) : Int) ((((k0_.getD ((IntKind.wrap .u32 (((IntKind.wrap .u32 (((Int.tmod ((IntKind.wrap .u32 (Int.tdiv (IntKind.wrap .u32 (Int.tmod s96.1 100000000)) 10000))) 100)) * 2))) + 1)) : Int).toNat 0).toNat : Nat) : Int)))) ((0 : Nat) + (IntKind.wrap .i64 (s96.2.1 - 6)) : Int) ((((k0_.getD ((IntKind.wrap .u32 (((Int.tmod ((IntKind.wrap .u32 (Int.tdiv (IntKind.wrap .u32 (Int.tmod s96.1 100000000)) 10000))) 100)) * 2)) : Int).toNat 0).toNat : Nat) : Int)))).length then (bif inR (IntKind.wrap .i64 (s96.2.1 - 8)) x0.toNat then (bif inP 0 (IntKind.wrap .i64 (s96.2.1 - 8)) ((setAt ((setAt ((setAt ((setAt ((setAt ((setAt ((setAt s96.2.2 ((0 : Nat) + (IntKind.wrap .i64 (s96.2.1 - 1)) : Int) ((((k0_.getD ((IntKind.wrap .u32 (((IntKind.wrap .u32 (((Int.tmod ((Int.tmod (IntKind.wrap .u32 (Int.tmod s96.1 100000000)) 10000)) 100)) * 2))) + 1)) : Int).toNat 0).toNat : Nat) : Int)))) ((0 : Nat) + (IntKind.wrap .i64 (s96.2.1 - 2)) : Int) ((((k0_.getD ((IntKind.wrap .u32 (((Int.tmod ((Int.tmod (IntKind.wrap .u32 (Int.tmod s96.1 100000000)) 10000)) 100)) * 2)) : Int).toNat 0).toNat : Nat) : Int)))) ((0 : Nat) + (IntKind.wrap .i64 (s96.2.1 - 3)) : Int) ((((k0_.getD ((IntKind.wrap .u32 (((IntKind.wrap .u32 (((IntKind.wrap .u32 (Int.tdiv ((Int.tmod (IntKind.wrap .u32 (Int.tmod s96.1 100000000)) 10000)) 100))) * 2))) + 1)) : Int).toNat 0).toNat : Nat) : Int)))) ((0 : Nat) + (IntKind.wrap .i64 (s96.2.1 - 4)) : Int) ((((k0_.getD ((IntKind.wrap .u32 (((IntKind.wrap .u32 (Int.tdiv ((Int.tmod (IntKind.wrap .u32 (Int.tmod s96.1 100000000)) 10000)) 100))) * 2)) : Int).toNat 0).toNat : Nat) : Int)))) ((0 : Nat) + (IntKind.wrap .i64 (s96.2.1 - 5)) : Int) ((((k0_.getD ((IntKind.wrap .u32 (((IntKind.wrap .u32 (((Int.tmod ((IntKind.wrap .u32 (Int.tdiv (IntKind.wrap .u32 (Int.tmod s96.1 100000000)) 10000))) 100)) * 2))) + 1)) : Int).toNat 0).toNat : Nat) : Int)))) ((0 : Nat) + (IntKind.wrap .i64 (s96.2.1 - 6)) : Int) ((((k0_.getD ((IntKind.wrap .u32 (((Int.tmod ((IntKind.wrap .u32 (Int.tdiv (IntKind.wrap .u32 (Int.tmod s96.1 100000000)) 10000))) 100)) * 2)) : Int).toNat 0).toNat : Nat) : Int)))) ((0 : Nat) + (IntKind.wrap .i64 (s96.2.1 - 7)) : Int) ((((k0_.getD ((IntKind.wrap .u32 (((IntKind.wrap .u32 (((IntKind.wrap .u32 (Int.tdiv ((IntKind.wrap .u32 (Int.tdiv (IntKind.wrap .u32 (Int.tmod s96.1 100000000)) 10000))) 100))) * 2))) + 1)) : Int).toNat 0).toNat : Nat) : Int)))).length then (some (.inl ((IntKind.wrap .u64 (Int.tdiv s96.1 100000000)), (IntKind.wrap .i64 (s96.2.1 - 8)), (setAt ((setAt ((setAt ((setAt ((setAt ((setAt ((setAt ((setAt s96.2.2 ((0 : Nat) + (IntKind.wrap .i64 (s96.2.1 - 1)) : Int) ((((k0_.getD ((IntKind.wrap .u32 (((IntKind.wrap .u32 (((Int.tmod ((Int.tmod (IntKind.wrap .u32 (Int.tmod s96.1 100000000)) 10000)) 100)) * 2))) + 1)) : Int).toNat 0).toNat : Nat) : Int)))) ((0 : Nat) + (IntKind.wrap .i64 (s96.2.1 - 2)) : Int) ((((k0_.getD ((IntKind.wrap .u32 (((Int.tmod ((Int.tmod (IntKind.wrap .u32 (Int.tmod s96.1 100000000)) 10000)) 100)) * 2)) : Int).toNat 0).toNat : Nat) : Int)))) ((0 : Nat) + (IntKind.wrap .i64 (s96.2.1 - 3)) : Int) ((((k0_.getD ((IntKind.wrap .u32 (((IntKind.wrap .u32 (((IntKind.wrap .u32 (Int.tdiv ((Int.tmod (IntKind.wrap .u32 (Int.tmod s96.1 100000000)) 10000)) 100))) * 2))) + 1)) : Int).toNat 0).toNat : Nat) : Int)))) ((0 : Nat) + (IntKind.wrap .i64 (s96.2.1 - 4)) : Int) ((((k0_.getD ((IntKind.wrap .u32 (((IntKind.wrap .u32 (Int.tdiv ((Int.tmod (IntKind.wrap .u32 (Int.tmod s96.1 100000000)) 10000)) 100))) * 2)) : Int).toNat 0).toNat : Nat) : Int)))) ((0 : Nat) + (IntKind.wrap .i64 (s96.2.1 - 5)) : Int) ((((k0_.getD ((IntKind.wrap .u32 (((IntKind.wrap .u32 (((Int.tmod ((IntKind.wrap .u32 (Int.tdiv (IntKind.wrap .u32 (Int.tmod s96.1 100000000)) 10000))) 100)) * 2))) + 1)) : Int).toNat 0).toNat : Nat) : Int)))) ((0 : Nat) + (IntKind.wrap .i64 (s96.2.1 - 6)) : Int) ((((k0_.getD ((IntKind.wrap .u32 (((Int.tmod ((IntKind.wrap .u32 (Int.tdiv (IntKind.wrap .u32 (Int.tmod s96.1 100000000)) 10000))) 100)) * 2)) : Int).toNat 0).toNat : Nat) : Int)))) ((0 : Nat) + (IntKind.wrap .i64 (s96.2.1 - 7)) : Int) ((((k0_.getD ((IntKind.wrap .u32 (((IntKind.wrap .u32 (((IntKind.wrap .u32 (Int.tdiv ((IntKind.wrap .u32 (Int.tdiv (IntKind.wrap .u32 (Int.tmod s96.1 100000000)) 10000))) 100))) * 2))) + 1)) : Int).toNat 0).toNat : Nat) : Int)))) ((0 : Nat) + (IntKind.wrap .i64 (s96.2.1 - 8)) : Int) ((((k0_.getD ((IntKind.wrap .u32 (((IntKind.wrap .u32 (Int.tdiv ((IntKind.wrap .u32 (Int.tdiv (IntKind.wrap .u32 (Int.tmod s96.1 100000000)) 10000))) 100))) * 2)) : Int).toNat 0).toNat : Nat) : Int)))))) else none) else none) else none) else none) else none) else none) else none) else none) else none) else none) else none) else none) else none) else none) else none) else none) else none) else none) else none) else none) else none) else none) else none) else none) else (some (.inr (s96.1, s96.2.1, s96.2.2))))) big (x1, ((x0.toNat : Nat) : Int), x2)) fun (s91 : Int × Int × (List Int)) => (Option.bind (bif (decide (s91.2.1 ≥ 4)) then (bif inR ((IntKind.wrap .u32 (((IntKind.wrap .u32 (((Int.tmod (Int.tmod (IntKind.wrap .u32 s91.1) 10000) 100)) * 2))) + 1))) k0_.length then (bif inR ((IntKind.wrap .u32 (((Int.tmod (Int.tmod (IntKind.wrap .u32 s91.1) 10000) 100)) * 2))) k0_.length then (bif inR (IntKind.wrap .i64 (s91.2.1 - 1)) x0.toNat then (bif inP 0 (IntKind.wrap .i64 (s91.2.1 - 1)) s91.2.2.length then (bif inR (IntKind.wrap .i64 (s91.2.1 - 2)) x0.toNat then (bif inP 0 (IntKind.wrap .i64 (s91.2.1 - 2)) ((setAt s91.2.2 ((0 : Nat) + (IntKind.wrap .i64 (s91.2.1 - 1)) : Int) ((((k0_.getD ((IntKind.wrap .u32 (((IntKind.wrap .u32 (((Int.tmod (Int.tmod (IntKind.wrap .u32 s91.1) 10000) 100)) * 2))) + 1)) : Int).toNat 0).toNat : Nat) : Int)))).length then (bif inR ((IntKind.wrap .u32 (((IntKind.wrap .u32 (((IntKind.wrap .u32 (Int.tdiv (Int.tmod (IntKind.wrap .u32 s91.1) 10000) 100))) * 2))) + 1))) k0_.length then (bif inR ((IntKind.wrap .u32 (((IntKind.wrap .u32 (Int.tdiv (Int.tmod (IntKind.wrap .u32 s91.1) 10000) 100))) * 2))) k0_.length then (bif inR (IntKind.wrap .i64 (s91.2.1 - 3)) x0.toNat then (bif inP 0 (IntKind.wrap .i64 (s91.2.1 - 3)) ((setAt ((setAt s91.2.2 ((0 : Nat) + (IntKind.wrap .i64 (s91.2.1 - 1)) : Int) ((((k0_.getD ((IntKind.wrap .u32 (((IntKind.wrap .u32 (((Int.tmod (Int.tmod (IntKind.wrap .u32 s91.1) 10000) 100)) * 2))) + 1)) : Int).toNat 0).toNat : Nat) : Int)))) ((0 : Nat) + (IntKind.wrap .i64 (s91.2.1 - 2)) : Int) ((((k0_.getD ((IntKind.wrap .u32 (((Int.tmod (Int.tmod (IntKind.wrap .u32 s91.1) 10000) 100)) * 2)) : Int).toNat 0).toNat : Nat) : Int)))).length then (bif inR (IntKind.wrap .i64 (s91.2.1 - 4)) x0.toNat then (bif inP 0 (IntKind.wrap .i64 (s91.2.1 - 4)) ((setAt ((setAt ((setAt s91.2.2 ((0 : Nat) + (IntKind.wrap .i64 (s91.2.1 - 1)) : Int) ((((k0_.getD ((IntKind.wrap .u32 (((IntKind.wrap .u32 (((Int.tmod (Int.tmod (IntKind.wrap .u32 s91.1) 10000) 100)) * 2))) + 1)) : Int).toNat 0).toNat : Nat) : Int)))) ((0 : Nat) + (IntKind.wrap .i64 (s91.2.1 - 2)) : Int) ((((k0_.getD ((IntKind.wrap .u32 (((Int.tmod (Int.tmod (IntKind.wrap .u32 s91.1) 10000) 100)) * 2)) : Int).toNat 0).toNat : Nat) : Int)))) ((0 : Nat) + (IntKind.wrap .i64 (s91.2.1 - 3)) : Int) ((((k0_.getD ((IntKind.wrap .u32 (((IntKind.wrap .u32 (((IntKind.wrap .u32 (Int.tdiv (Int.tmod (IntKind.wrap .u32 s91.1) 10000) 100))) * 2))) + 1)) : Int).toNat 0).toNat : Nat) : Int)))).length then (some ((IntKind.wrap .i64 (s91.2.1 - 4)), (IntKind.wrap .u32 (Int.tdiv (IntKind.wrap .u32 s91.1) 10000)), (setAt ((setAt ((setAt ((setAt s91.2.2 ((0 : Nat) + (IntKind.wrap .i64 (s91.2.1 - 1)) : Int) ((((k0_.getD ((IntKind.wrap .u32 (((IntKind.wrap .u32 (((Int.tmod (Int.tmod (IntKind.wrap .u32 s91.1) 10000) 100)) * 2))) + 1)) : Int).toNat 0).toNat : Nat) : Int)))) ((0 : Nat) + (IntKind.wrap .i64 (s91.2.1 - 2)) : Int) ((((k0_.getD ((IntKind.wrap .u32 (((Int.tmod (Int.tmod (IntKind.wrap .u32 s91.1) 10000) 100)) * 2)) : Int).toNat 0).toNat : Nat) : Int)))) ((0 : Nat) + (IntKind.wrap .i64 (s91.2.1 - 3)) : Int) ((((k0_.getD ((IntKind.wrap .u32 (((IntKind.wrap .u32 (((IntKind.wrap .u32 (Int.tdiv (Int.tmod (IntKind.wrap .u32 s91.1) 10000) 100))) * 2))) + 1)) : Int).toNat 0).toNat : Nat) : Int)))) ((0 : Nat) + (IntKind.wrap .i64 (s91.2.1 - 4)) : Int) ((((k0_.getD ((IntKind.wrap .u32 (((IntKind.wrap .u32 (Int.tdiv (Int.tmod (IntKind.wrap .u32 s91.1) 10000) 100))) * 2)) : Int).toNat 0).toNat : Nat) : Int))))) else none) else none) else none) else none) else none) else none) else none) else none) else none) else none) else none) else none) else (some (s91.2.1, (IntKind.wrap .u32 s91.1), s91.2.2))) fun (s201 : Int × Int × (List Int)) => (Option.bind (bif (decide (s201.1 ≥ 2)) then (bif inR ((IntKind.wrap .u32 (((IntKind.wrap .u32 ((Int.tmod s201.2.1 100) * 2))) + 1))) k0_.length then (bif inR ((IntKind.wrap .u32 ((Int.tmod s201.2.1 100) * 2))) k0_.length then (bif inR (IntKind.wrap .i64 (s201.1 - 1)) x0.toNat then (bif inP 0 (IntKind.wrap .i64 (s201.1 - 1)) s201.2.2.length then (bif inR (IntKind.wrap .i64 (s201.1 - 2)) x0.toNat then (bif inP 0 (IntKind.wrap .i64 (s201.1 - 2)) ((setAt s201.2.2 ((0 : Nat) + (IntKind.wrap .i64 (s201.1 - 1)) : Int) ((((k0_.getD ((IntKind.wrap .u32 (((IntKind.wrap .u32 ((Int.tmod s201.2.1 100) * 2))) + 1)) : Int).toNat 0).toNat : Nat) : Int)))).length then (some ((IntKind.wrap .i64 (s201.1 - 2)), (IntKind.wrap .u32 (Int.tdiv s201.2.1 100)), (setAt ((setAt s201.2.2 ((0 : Nat) + (IntKind.wrap .i64 (s201.1 - 1)) : Int) ((((k0_.getD ((IntKind.wrap .u32 (((IntKind.wrap .u32 ((Int.tmod s201.2.1 100) * 2))) + 1)) : Int).toNat 0).toNat : Nat) : Int)))) ((0 : Nat) + (IntKind.wrap .i64 (s201.1 - 2)) : Int) ((((k0_.getD ((IntKind.wrap .u32 ((Int.tmod s201.2.1 100) * 2)) : Int).toNat 0).toNat : Nat) : Int))))) else none) else none) else none) else none) else none) else none) else (some (s201.1, s201.2.1, s201.2.2))) fun (s230 : Int × Int × (List Int)) => (bif (decide (s230.1 > 0)) then (bif inR 0 x0.toNat then (bif inP 0 0 s230.2.2.length then (some ((setAt s230.2.2 ((0 : Nat) + 0 : Int) ((IntKind.wrap .u8 (IntKind.wrap .u32 (48 + s230.2.1))))))) else none) else none) else (some s230.2.2)))))
theorem strconv_formatBase10_s0_ok {x0 : Int} {x1 : Int} {x2 : List Int} {r : (List Int)} (h : strconv_formatBase10_s0 x0 x1 x2 = some r) : SC Tryd.prog 95 [.sl 0 0 x0.toNat 1, .int .u64 x1] [.box (x2.flatMap (encI .u8))] (.tup []) [.box (r.flatMap (encI .u8))] := by
 refine kFn (fn := Tryd.f95) (fun F hFn hFH hFD => ?_)
 unfold strconv_formatBase10_s0 at h
 refine kSR ?_
 refine kC 3 [0,1,4] ?_
 refine kEN ?_
 obtain ⟨s91, hy93, h95⟩ := bindS h
 refine K.cutN (by kernel_rfl) (fun (s91 : Int × Int × (List Int)) => ([(0, .sl 0 0 x0.toNat 1), (1, .int .u64 s91.1), (4, .int .i64 s91.2.1)], [.box (s91.2.2.flatMap (encI .u8))])) s91 ?_ ?_
 ·refine K.block 0 (by kernel_rfl) ?_
  refine K.loop (by kernel_rfl) (fun (s96 : Int × Int × (List Int)) => ([(0, .sl 0 0 x0.toNat 1), (1, .int .u64 s96.1), (4, .int .i64 s96.2.1)], [.box (s96.2.2.flatMap (encI .u8))])) hy93 [0, 1, 4] (by kernel_rfl) (by kernel_rfl) (fun s96 x156 hs155 => ?_)
  refine kS ?_
  refine kSR ?_
  refine kC 2 [0,1,4,20] ?_
  refine kEN ?_
  refine J.caseB 20 (b := (decide (s96.2.1 ≥ 8))) (by kernel_rfl) (fun hb157 => ?_) (fun hb157 => ?_)
  ·have h158 := condT hb157 hs155
   refine kT ?_
   refine kK ?_
   refine PJ.next ?_
   refine K.block 1 (by kernel_rfl) ?_
   refine kSR ?_
   refine kC 4 [0,1,4,5] ?_
   refine kEN ?_
   refine kSR ?_
   refine kC 3 [0,1,4,5] ?_
   refine kEN ?_
   refine kSR ?_
   refine RJ.seg 6 [0, 1, 4, 6, 7] (L2 := [(0, .sl 0 0 x0.toNat 1), (1, .int .u64 (IntKind.wrap .u64 (Int.tdiv s96.1 100000000))), (4, .int .i64 s96.2.1), (6, .int .u32 ((IntKind.wrap .u32 (Int.tdiv (IntKind.wrap .u32 (Int.tmod s96.1 100000000)) 10000)))), (7, .int .u32 ((Int.tmod (IntKind.wrap .u32 (Int.tmod s96.1 100000000)) 10000)))]) (H2 := [.box (s96.2.2.flatMap (encI .u8))]) (by kernel_rfl) ?_
   refine kEN ?_
   refine kSR ?_
   refine kC 8 [0,1,4,6,8,9] ?_
   refine kEN ?_
   refine kSR ?_
   refine kC 8 [0,1,4,8,9,10,11] ?_
   refine kEN ?_
   refine kS ?_
   refine J.keep [0, 1, 4, 8, 9, 10, 11] (L2 := [(0, .sl 0 0 x0.toNat 1), (1, .int .u64 (IntKind.wrap .u64 (Int.tdiv s96.1 100000000))), (4, .int .i64 s96.2.1), (8, .int .u32 ((IntKind.wrap .u32 (((IntKind.wrap .u32 (Int.tdiv ((Int.tmod (IntKind.wrap .u32 (Int.tmod s96.1 100000000)) 10000)) 100))) * 2)))), (9, .int .u32 ((IntKind.wrap .u32 (((Int.tmod ((Int.tmod (IntKind.wrap .u32 (Int.tmod s96.1 100000000)) 10000)) 100)) * 2)))), (10, .int .u32 ((IntKind.wrap .u32 (((IntKind.wrap .u32 (Int.tdiv ((IntKind.wrap .u32 (Int.tdiv (IntKind.wrap .u32 (Int.tmod s96.1 100000000)) 10000))) 100))) * 2)))), (11, .int .u32 ((IntKind.wrap .u32 (((Int.tmod ((IntKind.wrap .u32 (Int.tdiv (IntKind.wrap .u32 (Int.tmod s96.1 100000000)) 10000))) 100)) * 2))))]) (by kernel_rfl) ?_
   refine K.draw (by kernel_rfl) (by kernel_rfl) (by kernel_rfl) (H2 := [.box (s96.2.2.flatMap (encI .u8))]) (by kernel_rfl) (n := 1) (by kernel_rfl) ?_
   refine kD 8 ?_
   obtain ⟨hm, h160⟩ := asrt h158
   refine RJ.rel (d := (some 50)) (ef := ⟨.int .u8 (((k0_.getD ((IntKind.wrap .u32 (((IntKind.wrap .u32 (((Int.tmod ((Int.tmod (IntKind.wrap .u32 (Int.tmod s96.1 100000000)) 10000)) 100)) * 2))) + 1)) : Int).toNat 0).toNat : Nat) : Int), [], []⟩) (ef' := ⟨.int .u8 (((k0_.getD ((IntKind.wrap .u32 (((IntKind.wrap .u32 (((Int.tmod ((Int.tmod (IntKind.wrap .u32 (Int.tmod s96.1 100000000)) 10000)) 100)) * 2))) + 1)) : Int).toNat 0).toNat : Nat) : Int), [], []⟩) (c := inR ((IntKind.wrap .u32 (((IntKind.wrap .u32 (((Int.tmod ((Int.tmod (IntKind.wrap .u32 (Int.tmod s96.1 100000000)) 10000)) 100)) * 2))) + 1))) k0_.length) (tr2 := [([], []), ([], []), ([], []), ([], []), ([], []), ([], []), ([], []), ([], []), ([], [])]) (H2 := [.box (s96.2.2.flatMap (encI .u8))]) (by kernel_rfl) hm (fun hc => rfl) (by kernel_rfl) ?_
   refine RJ.segD 1 (tr2 := [([], []), ([], []), ([], []), ([], []), ([], []), ([], []), ([], []), ([], []), ([], []), ([], [])]) (L2 := [(51, .int .u32 ((IntKind.wrap .u32 (((Int.tmod ((Int.tmod (IntKind.wrap .u32 (Int.tmod s96.1 100000000)) 10000)) 100)) * 2)))), (50, .int .u8 ((((k0_.getD ((IntKind.wrap .u32 (((IntKind.wrap .u32 (((Int.tmod ((Int.tmod (IntKind.wrap .u32 (Int.tmod s96.1 100000000)) 10000)) 100)) * 2))) + 1)) : Int).toNat 0).toNat : Nat) : Int))), (49, .int .u32 ((IntKind.wrap .u32 (((IntKind.wrap .u32 (((Int.tmod ((Int.tmod (IntKind.wrap .u32 (Int.tmod s96.1 100000000)) 10000)) 100)) * 2))) + 1)))), (48, .int .u32 ((IntKind.wrap .u32 (((Int.tmod ((Int.tmod (IntKind.wrap .u32 (Int.tmod s96.1 100000000)) 10000)) 100)) * 2)))), (47, .int .i64 (IntKind.wrap .i64 (s96.2.1 - 2))), (46, .int .i64 s96.2.1), (45, .sl 0 0 x0.toNat 1), (44, .int .i64 (IntKind.wrap .i64 (s96.2.1 - 1))), (43, .int .i64 s96.2.1), (42, .sl 0 0 x0.toNat 1), (0, .sl 0 0 x0.toNat 1), (1, .int .u64 (IntKind.wrap .u64 (Int.tdiv s96.1 100000000))), (4, .int .i64 s96.2.1), (8, .int .u32 ((IntKind.wrap .u32 (((IntKind.wrap .u32 (Int.tdiv ((Int.tmod (IntKind.wrap .u32 (Int.tmod s96.1 100000000)) 10000)) 100))) * 2)))), (9, .int .u32 ((IntKind.wrap .u32 (((Int.tmod ((Int.tmod (IntKind.wrap .u32 (Int.tmod s96.1 100000000)) 10000)) 100)) * 2)))), (10, .int .u32 ((IntKind.wrap .u32 (((IntKind.wrap .u32 (Int.tdiv ((IntKind.wrap .u32 (Int.tdiv (IntKind.wrap .u32 (Int.tmod s96.1 100000000)) 10000))) 100))) * 2)))), (11, .int .u32 ((IntKind.wrap .u32 (((Int.tmod ((IntKind.wrap .u32 (Int.tdiv (IntKind.wrap .u32 (Int.tmod s96.1 100000000)) 10000))) 100)) * 2))))]) (H2 := [.box (s96.2.2.flatMap (encI .u8))]) (by kernel_rfl) ?_
   obtain ⟨hm, h161⟩ := asrt h160
   refine RJ.rel (d := (some 52)) (ef := ⟨.int .u8 (((k0_.getD ((IntKind.wrap .u32 (((Int.tmod ((Int.tmod (IntKind.wrap .u32 (Int.tmod s96.1 100000000)) 10000)) 100)) * 2)) : Int).toNat 0).toNat : Nat) : Int), [], []⟩) (ef' := ⟨.int .u8 (((k0_.getD ((IntKind.wrap .u32 (((Int.tmod ((Int.tmod (IntKind.wrap .u32 (Int.tmod s96.1 100000000)) 10000)) 100)) * 2)) : Int).toNat 0).toNat : Nat) : Int), [], []⟩) (c := inR ((IntKind.wrap .u32 (((Int.tmod ((Int.tmod (IntKind.wrap .u32 (Int.tmod s96.1 100000000)) 10000)) 100)) * 2))) k0_.length) (tr2 := [([], []), ([], []), ([], []), ([], []), ([], []), ([], []), ([], []), ([], []), ([], []), ([], []), ([], [])]) (H2 := [.box (s96.2.2.flatMap (encI .u8))]) (by kernel_rfl) hm (fun hc => rfl) (by kernel_rfl) ?_
   obtain ⟨hm, h162⟩ := asrt h161
   refine RJ.rel (d := (some 53)) (ef := ⟨.ptr 0 (0 + ((IntKind.wrap .i64 (s96.2.1 - 1)) : Int).toNat * 1), [], []⟩) (ef' := ⟨.ptr 0 (0 + ((IntKind.wrap .i64 (s96.2.1 - 1)) : Int).toNat * 1), [], []⟩) (c := inR (IntKind.wrap .i64 (s96.2.1 - 1)) x0.toNat) (tr2 := [([], []), ([], []), ([], []), ([], []), ([], []), ([], []), ([], []), ([], []), ([], []), ([], []), ([], []), ([], [])]) (H2 := [.box (s96.2.2.flatMap (encI .u8))]) (by kernel_rfl) hm (fun hc => rfl) (by kernel_rfl) ?_
   obtain ⟨hm, h163⟩ := asrt h162
   refine RJ.relS (d := none) (ef := ⟨.undef, [0], [(0, .box (splice (s96.2.2.flatMap (encI .u8)) (0 * 1 + ((IntKind.wrap .i64 (s96.2.1 - 1)) : Int).toNat * 1) ((encI .u8) ((((k0_.getD ((IntKind.wrap .u32 (((IntKind.wrap .u32 (((Int.tmod ((Int.tmod (IntKind.wrap .u32 (Int.tmod s96.1 100000000)) 10000)) 100)) * 2))) + 1)) : Int).toNat 0).toNat : Nat) : Int)))))]⟩) (ef' := ⟨.undef, [0], [(0, .box ((setAt s96.2.2 ((0 : Nat) + (IntKind.wrap .i64 (s96.2.1 - 1)) : Int) ((((k0_.getD ((IntKind.wrap .u32 (((IntKind.wrap .u32 (((Int.tmod ((Int.tmod (IntKind.wrap .u32 (Int.tmod s96.1 100000000)) 10000)) 100)) * 2))) + 1)) : Int).toNat 0).toNat : Nat) : Int))).flatMap (encI .u8)))]⟩) (c := Nat.ble (0 * 1 + ((IntKind.wrap .i64 (s96.2.1 - 1)) : Int).toNat * 1 + ((encI .u8) ((((k0_.getD ((IntKind.wrap .u32 (((IntKind.wrap .u32 (((Int.tmod ((Int.tmod (IntKind.wrap .u32 (Int.tmod s96.1 100000000)) 10000)) 100)) * 2))) + 1)) : Int).toNat 0).toNat : Nat) : Int))).length) (s96.2.2.flatMap (encI .u8)).length) (tr2 := [([], []), ([], []), ([], []), ([], []), ([], []), ([], []), ([], []), ([], []), ([], []), ([], []), ([], []), ([], []), ([0, 1], [0])]) (H2 := [.box (((setAt s96.2.2 ((0 : Nat) + (IntKind.wrap .i64 (s96.2.1 - 1)) : Int) ((((k0_.getD ((IntKind.wrap .u32 (((IntKind.wrap .u32 (((Int.tmod ((Int.tmod (IntKind.wrap .u32 (Int.tmod s96.1 100000000)) 10000)) 100)) * 2))) + 1)) : Int).toNat 0).toNat : Nat) : Int)))).flatMap (encI .u8))]) (by kernel_rfl) (storeB_ok (encI_len .u8) hm) (fun hc => N.storeB (o := 0) (encI_len .u8) hm) (by kernel_rfl) ?_
   obtain ⟨hm, h164⟩ := asrt h163
   refine RJ.rel (d := (some 54)) (ef := ⟨.ptr 0 (0 + ((IntKind.wrap .i64 (s96.2.1 - 2)) : Int).toNat * 1), [], []⟩) (ef' := ⟨.ptr 0 (0 + ((IntKind.wrap .i64 (s96.2.1 - 2)) : Int).toNat * 1), [], []⟩) (c := inR (IntKind.wrap .i64 (s96.2.1 - 2)) x0.toNat) (tr2 := [([], []), ([], []), ([], []), ([], []), ([], []), ([], []), ([], []), ([], []), ([], []), ([], []), ([], []), ([], []), ([0, 1], [0]), ([], [])]) (H2 := [.box (((setAt s96.2.2 ((0 : Nat) + (IntKind.wrap .i64 (s96.2.1 - 1)) : Int) ((((k0_.getD ((IntKind.wrap .u32 (((IntKind.wrap .u32 (((Int.tmod ((Int.tmod (IntKind.wrap .u32 (Int.tmod s96.1 100000000)) 10000)) 100)) * 2))) + 1)) : Int).toNat 0).toNat : Nat) : Int)))).flatMap (encI .u8))]) (by kernel_rfl) hm (fun hc => rfl) (by kernel_rfl) ?_
   obtain ⟨hm, h165⟩ := asrt h164
   refine RJ.relS (d := none) (ef := ⟨.undef, [0], [(0, .box (splice (((setAt s96.2.2 ((0 : Nat) + (IntKind.wrap .i64 (s96.2.1 - 1)) : Int) ((((k0_.getD ((IntKind.wrap .u32 (((IntKind.wrap .u32 (((Int.tmod ((Int.tmod (IntKind.wrap .u32 (Int.tmod s96.1 100000000)) 10000)) 100)) * 2))) + 1)) : Int).toNat 0).toNat : Nat) : Int)))).flatMap (encI .u8)) (0 * 1 + ((IntKind.wrap .i64 (s96.2.1 - 2)) : Int).toNat * 1) ((encI .u8) ((((k0_.getD ((IntKind.wrap .u32 (((Int.tmod ((Int.tmod (IntKind.wrap .u32 (Int.tmod s96.1 100000000)) 10000)) 100)) * 2)) : Int).toNat 0).toNat : Nat) : Int)))))]⟩) (ef' := ⟨.undef, [0], [(0, .box ((setAt ((setAt s96.2.2 ((0 : Nat) + (IntKind.wrap .i64 (s96.2.1 - 1)) : Int) ((((k0_.getD ((IntKind.wrap .u32 (((IntKind.wrap .u32 (((Int.tmod ((Int.tmod (IntKind.wrap .u32 (Int.tmod s96.1 100000000)) 10000)) 100)) * 2))) + 1)) : Int).toNat 0).toNat : Nat) : Int)))) ((0 : Nat) + (IntKind.wrap .i64 (s96.2.1 - 2)) : Int) ((((k0_.getD ((IntKind.wrap .u32 (((Int.tmod ((Int.tmod (IntKind.wrap .u32 (Int.tmod s96.1 100000000)) 10000)) 100)) * 2)) : Int).toNat 0).toNat : Nat) : Int))).flatMap (encI .u8)))]⟩) (c := Nat.ble (0 * 1 + ((IntKind.wrap .i64 (s96.2.1 - 2)) : Int).toNat * 1 + ((encI .u8) ((((k0_.getD ((IntKind.wrap .u32 (((Int.tmod ((Int.tmod (IntKind.wrap .u32 (Int.tmod s96.1 100000000)) 10000)) 100)) * 2)) : Int).toNat 0).toNat : Nat) : Int))).length) (((setAt s96.2.2 ((0 : Nat) + (IntKind.wrap .i64 (s96.2.1 - 1)) : Int) ((((k0_.getD ((IntKind.wrap .u32 (((IntKind.wrap .u32 (((Int.tmod ((Int.tmod (IntKind.wrap .u32 (Int.tmod s96.1 100000000)) 10000)) 100)) * 2))) + 1)) : Int).toNat 0).toNat : Nat) : Int)))).flatMap (encI .u8)).length) (tr2 := [([], []), ([], []), ([], []), ([], []), ([], []), ([], []), ([], []), ([], []), ([], []), ([], []), ([], []), ([], []), ([0, 1], [0]), ([], []), ([0, 1], [0])]) (H2 := [.box (((setAt ((setAt s96.2.2 ((0 : Nat) + (IntKind.wrap .i64 (s96.2.1 - 1)) : Int) ((((k0_.getD ((IntKind.wrap .u32 (((IntKind.wrap .u32 (((Int.tmod ((Int.tmod (IntKind.wrap .u32 (Int.tmod s96.1 100000000)) 10000)) 100)) * 2))) + 1)) : Int).toNat 0).toNat : Nat) : Int)))) ((0 : Nat) + (IntKind.wrap .i64 (s96.2.1 - 2)) : Int) ((((k0_.getD ((IntKind.wrap .u32 (((Int.tmod ((Int.tmod (IntKind.wrap .u32 (Int.tmod s96.1 100000000)) 10000)) 100)) * 2)) : Int).toNat 0).toNat : Nat) : Int)))).flatMap (encI .u8))]) (by kernel_rfl) (storeB_ok (encI_len .u8) hm) (fun hc => N.storeB (o := 0) (encI_len .u8) hm) (by kernel_rfl) ?_
   refine kEN ?_
   refine kS ?_
   refine J.keep [0, 1, 4, 8, 10, 11] (L2 := [(0, .sl 0 0 x0.toNat 1), (1, .int .u64 (IntKind.wrap .u64 (Int.tdiv s96.1 100000000))), (4, .int .i64 s96.2.1), (8, .int .u32 ((IntKind.wrap .u32 (((IntKind.wrap .u32 (Int.tdiv ((Int.tmod (IntKind.wrap .u32 (Int.tmod s96.1 100000000)) 10000)) 100))) * 2)))), (10, .int .u32 ((IntKind.wrap .u32 (((IntKind.wrap .u32 (Int.tdiv ((IntKind.wrap .u32 (Int.tdiv (IntKind.wrap .u32 (Int.tmod s96.1 100000000)) 10000))) 100))) * 2)))), (11, .int .u32 ((IntKind.wrap .u32 (((Int.tmod ((IntKind.wrap .u32 (Int.tdiv (IntKind.wrap .u32 (Int.tmod s96.1 100000000)) 10000))) 100)) * 2))))]) (by kernel_rfl) ?_
   refine K.draw (by kernel_rfl) (by kernel_rfl) (by kernel_rfl) (H2 := [.box (((setAt ((setAt s96.2.2 ((0 : Nat) + (IntKind.wrap .i64 (s96.2.1 - 1)) : Int) ((((k0_.getD ((IntKind.wrap .u32 (((IntKind.wrap .u32 (((Int.tmod ((Int.tmod (IntKind.wrap .u32 (Int.tmod s96.1 100000000)) 10000)) 100)) * 2))) + 1)) : Int).toNat 0).toNat : Nat) : Int)))) ((0 : Nat) + (IntKind.wrap .i64 (s96.2.1 - 2)) : Int) ((((k0_.getD ((IntKind.wrap .u32 (((Int.tmod ((Int.tmod (IntKind.wrap .u32 (Int.tmod s96.1 100000000)) 10000)) 100)) * 2)) : Int).toNat 0).toNat : Nat) : Int)))).flatMap (encI .u8))]) (by kernel_rfl) (n := 1) (by kernel_rfl) ?_
   refine kD 8 ?_
   obtain ⟨hm, h166⟩ := asrt h165
   refine RJ.rel (d := (some 63)) (ef := ⟨.int .u8 (((k0_.getD ((IntKind.wrap .u32 (((IntKind.wrap .u32 (((IntKind.wrap .u32 (Int.tdiv ((Int.tmod (IntKind.wrap .u32 (Int.tmod s96.1 100000000)) 10000)) 100))) * 2))) + 1)) : Int).toNat 0).toNat : Nat) : Int), [], []⟩) (ef' := ⟨.int .u8 (((k0_.getD ((IntKind.wrap .u32 (((IntKind.wrap .u32 (((IntKind.wrap .u32 (Int.tdiv ((Int.tmod (IntKind.wrap .u32 (Int.tmod s96.1 100000000)) 10000)) 100))) * 2))) + 1)) : Int).toNat 0).toNat : Nat) : Int), [], []⟩) (c := inR ((IntKind.wrap .u32 (((IntKind.wrap .u32 (((IntKind.wrap .u32 (Int.tdiv ((Int.tmod (IntKind.wrap .u32 (Int.tmod s96.1 100000000)) 10000)) 100))) * 2))) + 1))) k0_.length) (tr2 := [([], []), ([], []), ([], []), ([], []), ([], []), ([], []), ([], []), ([], []), ([], [])]) (H2 := [.box (((setAt ((setAt s96.2.2 ((0 : Nat) + (IntKind.wrap .i64 (s96.2.1 - 1)) : Int) ((((k0_.getD ((IntKind.wrap .u32 (((IntKind.wrap .u32 (((Int.tmod ((Int.tmod (IntKind.wrap .u32 (Int.tmod s96.1 100000000)) 10000)) 100)) * 2))) + 1)) : Int).toNat 0).toNat : Nat) : Int)))) ((0 : Nat) + (IntKind.wrap .i64 (s96.2.1 - 2)) : Int) ((((k0_.getD ((IntKind.wrap .u32 (((Int.tmod ((Int.tmod (IntKind.wrap .u32 (Int.tmod s96.1 100000000)) 10000)) 100)) * 2)) : Int).toNat 0).toNat : Nat) : Int)))).flatMap (encI .u8))]) (by kernel_rfl) hm (fun hc => rfl) (by kernel_rfl) ?_
   refine kD 1 ?_
   obtain ⟨hm, h167⟩ := asrt h166
   refine RJ.rel (d := (some 65)) (ef := ⟨.int .u8 (((k0_.getD ((IntKind.wrap .u32 (((IntKind.wrap .u32 (Int.tdiv ((Int.tmod (IntKind.wrap .u32 (Int.tmod s96.1 100000000)) 10000)) 100))) * 2)) : Int).toNat 0).toNat : Nat) : Int), [], []⟩) (ef' := ⟨.int .u8 (((k0_.getD ((IntKind.wrap .u32 (((IntKind.wrap .u32 (Int.tdiv ((Int.tmod (IntKind.wrap .u32 (Int.tmod s96.1 100000000)) 10000)) 100))) * 2)) : Int).toNat 0).toNat : Nat) : Int), [], []⟩) (c := inR ((IntKind.wrap .u32 (((IntKind.wrap .u32 (Int.tdiv ((Int.tmod (IntKind.wrap .u32 (Int.tmod s96.1 100000000)) 10000)) 100))) * 2))) k0_.length) (tr2 := [([], []), ([], []), ([], []), ([], []), ([], []), ([], []), ([], []), ([], []), ([], []), ([], []), ([], [])]) (H2 := [.box (((setAt ((setAt s96.2.2 ((0 : Nat) + (IntKind.wrap .i64 (s96.2.1 - 1)) : Int) ((((k0_.getD ((IntKind.wrap .u32 (((IntKind.wrap .u32 (((Int.tmod ((Int.tmod (IntKind.wrap .u32 (Int.tmod s96.1 100000000)) 10000)) 100)) * 2))) + 1)) : Int).toNat 0).toNat : Nat) : Int)))) ((0 : Nat) + (IntKind.wrap .i64 (s96.2.1 - 2)) : Int) ((((k0_.getD ((IntKind.wrap .u32 (((Int.tmod ((Int.tmod (IntKind.wrap .u32 (Int.tmod s96.1 100000000)) 10000)) 100)) * 2)) : Int).toNat 0).toNat : Nat) : Int)))).flatMap (encI .u8))]) (by kernel_rfl) hm (fun hc => rfl) (by kernel_rfl) ?_
   obtain ⟨hm, h168⟩ := asrt h167
   refine RJ.rel (d := (some 66)) (ef := ⟨.ptr 0 (0 + ((IntKind.wrap .i64 (s96.2.1 - 3)) : Int).toNat * 1), [], []⟩) (ef' := ⟨.ptr 0 (0 + ((IntKind.wrap .i64 (s96.2.1 - 3)) : Int).toNat * 1), [], []⟩) (c := inR (IntKind.wrap .i64 (s96.2.1 - 3)) x0.toNat) (tr2 := [([], []), ([], []), ([], []), ([], []), ([], []), ([], []), ([], []), ([], []), ([], []), ([], []), ([], []), ([], [])]) (H2 := [.box (((setAt ((setAt s96.2.2 ((0 : Nat) + (IntKind.wrap .i64 (s96.2.1 - 1)) : Int) ((((k0_.getD ((IntKind.wrap .u32 (((IntKind.wrap .u32 (((Int.tmod ((Int.tmod (IntKind.wrap .u32 (Int.tmod s96.1 100000000)) 10000)) 100)) * 2))) + 1)) : Int).toNat 0).toNat : Nat) : Int)))) ((0 : Nat) + (IntKind.wrap .i64 (s96.2.1 - 2)) : Int) ((((k0_.getD ((IntKind.wrap .u32 (((Int.tmod ((Int.tmod (IntKind.wrap .u32 (Int.tmod s96.1 100000000)) 10000)) 100)) * 2)) : Int).toNat 0).toNat : Nat) : Int)))).flatMap (encI .u8))]) (by kernel_rfl) hm (fun hc => rfl) (by kernel_rfl) ?_
   obtain ⟨hm, h169⟩ := asrt h168
   refine RJ.relS (d := none) (ef := ⟨.undef, [0], [(0, .box (splice (((setAt ((setAt s96.2.2 ((0 : Nat) + (IntKind.wrap .i64 (s96.2.1 - 1)) : Int) ((((k0_.getD ((IntKind.wrap .u32 (((IntKind.wrap .u32 (((Int.tmod ((Int.tmod (IntKind.wrap .u32 (Int.tmod s96.1 100000000)) 10000)) 100)) * 2))) + 1)) : Int).toNat 0).toNat : Nat) : Int)))) ((0 : Nat) + (IntKind.wrap .i64 (s96.2.1 - 2)) : Int) ((((k0_.getD ((IntKind.wrap .u32 (((Int.tmod ((Int.tmod (IntKind.wrap .u32 (Int.tmod s96.1 100000000)) 10000)) 100)) * 2)) : Int).toNat 0).toNat : Nat) : Int)))).flatMap (encI .u8)) (0 * 1 + ((IntKind.wrap .i64 (s96.2.1 - 3)) : Int).toNat * 1) ((encI .u8) ((((k0_.getD ((IntKind.wrap .u32 (((IntKind.wrap .u32 (((IntKind.wrap .u32 (Int.tdiv ((Int.tmod (IntKind.wrap .u32 (Int.tmod s96.1 100000000)) 10000)) 100))) * 2))) + 1)) : Int).toNat 0).toNat : Nat) : Int)))))]⟩) (ef' := ⟨.undef, [0], [(0, .box ((setAt ((setAt ((setAt s96.2.2 ((0 : Nat) + (IntKind.wrap .i64 (s96.2.1 - 1)) : Int) ((((k0_.getD ((IntKind.wrap .u32 (((IntKind.wrap .u32 (((Int.tmod ((Int.tmod (IntKind.wrap .u32 (Int.tmod s96.1 100000000)) 10000)) 100)) * 2))) + 1)) : Int).toNat 0).toNat : Nat) : Int)))) ((0 : Nat) + (IntKind.wrap .i64 (s96.2.1 - 2)) : Int) ((((k0_.getD ((IntKind.wrap .u32 (((Int.tmod ((Int.tmod (IntKind.wrap .u32 (Int.tmod s96.1 100000000)) 10000)) 100)) * 2)) : Int).toNat 0).toNat : Nat) : Int)))) ((0 : Nat) + (IntKind.wrap .i64 (s96.2.1 - 3)) : Int) ((((k0_.getD ((IntKind.wrap .u32 (((IntKind.wrap .u32 (((IntKind.wrap .u32 (Int.tdiv ((Int.tmod (IntKind.wrap .u32 (Int.tmod s96.1 100000000)) 10000)) 100))) * 2))) + 1)) : Int).toNat 0).toNat : Nat) : Int))).flatMap (encI .u8)))]⟩) (c := Nat.ble (0 * 1 + ((IntKind.wrap .i64 (s96.2.1 - 3)) : Int).toNat * 1 + ((encI .u8) ((((k0_.getD ((IntKind.wrap .u32 (((IntKind.wrap .u32 (((IntKind.wrap .u32 (Int.tdiv ((Int.tmod (IntKind.wrap .u32 (Int.tmod s96.1 100000000)) 10000)) 100))) * 2))) + 1)) : Int).toNat 0).toNat : Nat) : Int))).length) (((setAt ((setAt s96.2.2 ((0 : Nat) + (IntKind.wrap .i64 (s96.2.1 - 1)) : Int) ((((k0_.getD ((IntKind.wrap .u32 (((IntKind.wrap .u32 (((Int.tmod ((Int.tmod (IntKind.wrap .u32 (Int.tmod s96.1 100000000)) 10000)) 100)) * 2))) + 1)) : Int).toNat 0).toNat : Nat) : Int)))) ((0 : Nat) + (IntKind.wrap .i64 (s96.2.1 - 2)) : Int) ((((k0_.getD ((IntKind.wrap .u32 (((Int.tmod ((Int.tmod (IntKind.wrap .u32 (Int.tmod s96.1 100000000)) 10000)) 100)) * 2)) : Int).toNat 0).toNat : Nat) : Int)))).flatMap (encI .u8)).length) (tr2 := [([], []), ([], []), ([], []), ([], []), ([], []), ([], []), ([], []), ([], []), ([], []), ([], []), ([], []), ([], []), ([0, 1], [0])]) (H2 := [.box (((setAt ((setAt ((setAt s96.2.2 ((0 : Nat) + (IntKind.wrap .i64 (s96.2.1 - 1)) : Int) ((((k0_.getD ((IntKind.wrap .u32 (((IntKind.wrap .u32 (((Int.tmod ((Int.tmod (IntKind.wrap .u32 (Int.tmod s96.1 100000000)) 10000)) 100)) * 2))) + 1)) : Int).toNat 0).toNat : Nat) : Int)))) ((0 : Nat) + (IntKind.wrap .i64 (s96.2.1 - 2)) : Int) ((((k0_.getD ((IntKind.wrap .u32 (((Int.tmod ((Int.tmod (IntKind.wrap .u32 (Int.tmod s96.1 100000000)) 10000)) 100)) * 2)) : Int).toNat 0).toNat : Nat) : Int)))) ((0 : Nat) + (IntKind.wrap .i64 (s96.2.1 - 3)) : Int) ((((k0_.getD ((IntKind.wrap .u32 (((IntKind.wrap .u32 (((IntKind.wrap .u32 (Int.tdiv ((Int.tmod (IntKind.wrap .u32 (Int.tmod s96.1 100000000)) 10000)) 100))) * 2))) + 1)) : Int).toNat 0).toNat : Nat) : Int)))).flatMap (encI .u8))]) (by kernel_rfl) (storeB_ok (encI_len .u8) hm) (fun hc => N.storeB (o := 0) (encI_len .u8) hm) (by kernel_rfl) ?_
   obtain ⟨hm, h170⟩ := asrt h169
   refine RJ.rel (d := (some 67)) (ef := ⟨.ptr 0 (0 + ((IntKind.wrap .i64 (s96.2.1 - 4)) : Int).toNat * 1), [], []⟩) (ef' := ⟨.ptr 0 (0 + ((IntKind.wrap .i64 (s96.2.1 - 4)) : Int).toNat * 1), [], []⟩) (c := inR (IntKind.wrap .i64 (s96.2.1 - 4)) x0.toNat) (tr2 := [([], []), ([], []), ([], []), ([], []), ([], []), ([], []), ([], []), ([], []), ([], []), ([], []), ([], []), ([], []), ([0, 1], [0]), ([], [])]) (H2 := [.box (((setAt ((setAt ((setAt s96.2.2 ((0 : Nat) + (IntKind.wrap .i64 (s96.2.1 - 1)) : Int) ((((k0_.getD ((IntKind.wrap .u32 (((IntKind.wrap .u32 (((Int.tmod ((Int.tmod (IntKind.wrap .u32 (Int.tmod s96.1 100000000)) 10000)) 100)) * 2))) + 1)) : Int).toNat 0).toNat : Nat) : Int)))) ((0 : Nat) + (IntKind.wrap .i64 (s96.2.1 - 2)) : Int) ((((k0_.getD ((IntKind.wrap .u32 (((Int.tmod ((Int.tmod (IntKind.wrap .u32 (Int.tmod s96.1 100000000)) 10000)) 100)) * 2)) : Int).toNat 0).toNat : Nat) : Int)))) ((0 : Nat) + (IntKind.wrap .i64 (s96.2.1 - 3)) : Int) ((((k0_.getD ((IntKind.wrap .u32 (((IntKind.wrap .u32 (((IntKind.wrap .u32 (Int.tdiv ((Int.tmod (IntKind.wrap .u32 (Int.tmod s96.1 100000000)) 10000)) 100))) * 2))) + 1)) : Int).toNat 0).toNat : Nat) : Int)))).flatMap (encI .u8))]) (by kernel_rfl) hm (fun hc => rfl) (by kernel_rfl) ?_
   obtain ⟨hm, h171⟩ := asrt h170
   refine RJ.relS (d := none) (ef := ⟨.undef, [0], [(0, .box (splice (((setAt ((setAt ((setAt s96.2.2 ((0 : Nat) + (IntKind.wrap .i64 (s96.2.1 - 1)) : Int) ((((k0_.getD ((IntKind.wrap .u32 (((IntKind.wrap .u32 (((Int.tmod ((Int.tmod (IntKind.wrap .u32 (Int.tmod s96.1 100000000)) 10000)) 100)) * 2))) + 1)) : Int).toNat 0).toNat : Nat) : Int)))) ((0 : Nat) + (IntKind.wrap .i64 (s96.2.1 - 2)) : Int) ((((k0_.getD ((IntKind.wrap .u32 (((Int.tmod ((Int.tmod (IntKind.wrap .u32 (Int.tmod s96.1 100000000)) 10000)) 100)) * 2)) : Int).toNat 0).toNat : Nat) : Int)))) ((0 : Nat) + (IntKind.wrap .i64 (s96.2.1 - 3)) : Int) ((((k0_.getD ((IntKind.wrap .u32 (((IntKind.wrap .u32 (((IntKind.wrap .u32 (Int.tdiv ((Int.tmod (IntKind.wrap .u32 (Int.tmod s96.1 100000000)) 10000)) 100))) * 2))) + 1)) : Int).toNat 0).toNat : Nat) : Int)))).flatMap (encI .u8)) (0 * 1 + ((IntKind.wrap .i64 (s96.2.1 - 4)) : Int).toNat * 1) ((encI .u8) ((((k0_.getD ((IntKind.wrap .u32 (((IntKind.wrap .u32 (Int.tdiv ((Int.tmod (IntKind.wrap .u32 (Int.tmod s96.1 100000000)) 10000)) 100))) * 2)) : Int).toNat 0).toNat : Nat) : Int)))))]⟩) (ef' := ⟨.undef, [0], [(0, .box ((setAt ((setAt ((setAt ((setAt s96.2.2 ((0 : Nat) + (IntKind.wrap .i64 (s96.2.1 - 1)) : Int) ((((k0_.getD ((IntKind.wrap .u32 (((IntKind.wrap .u32 (((Int.tmod ((Int.tmod (IntKind.wrap .u32 (Int.tmod s96.1 100000000)) 10000)) 100)) * 2))) + 1)) : Int).toNat 0).toNat : Nat) : Int)))) ((0 : Nat) + (IntKind.wrap .i64 (s96.2.1 - 2)) : Int) ((((k0_.getD ((IntKind.wrap .u32 (((Int.tmod ((Int.tmod (IntKind.wrap .u32 (Int.tmod s96.1 100000000)) 10000)) 100)) * 2)) : Int).toNat 0).toNat : Nat) : Int)))) ((0 : Nat) + (IntKind.wrap .i64 (s96.2.1 - 3)) : Int) ((((k0_.getD ((IntKind.wrap .u32 (((IntKind.wrap .u32 (((IntKind.wrap .u32 (Int.tdiv ((Int.tmod (IntKind.wrap .u32 (Int.tmod s96.1 100000000)) 10000)) 100))) * 2))) + 1)) : Int).toNat 0).toNat : Nat) : Int)))) ((0 : Nat) + (IntKind.wrap .i64 (s96.2.1 - 4)) : Int) ((((k0_.getD ((IntKind.wrap .u32 (((IntKind.wrap .u32 (Int.tdiv ((Int.tmod (IntKind.wrap .u32 (Int.tmod s96.1 100000000)) 10000)) 100))) * 2)) : Int).toNat 0).toNat : Nat) : Int))).flatMap (encI .u8)))]⟩) (c := Nat.ble (0 * 1 + ((IntKind.wrap .i64 (s96.2.1 - 4)) : Int).toNat * 1 + ((encI .u8) ((((k0_.getD ((IntKind.wrap .u32 (((IntKind.wrap .u32 (Int.tdiv ((Int.tmod (IntKind.wrap .u32 (Int.tmod s96.1 100000000)) 10000)) 100))) * 2)) : Int).toNat 0).toNat : Nat) : Int))).length) (((setAt ((setAt ((setAt s96.2.2 ((0 : Nat) + (IntKind.wrap .i64 (s96.2.1 - 1)) : Int) ((((k0_.getD ((IntKind.wrap .u32 (((IntKind.wrap .u32 (((Int.tmod ((Int.tmod (IntKind.wrap .u32 (Int.tmod s96.1 100000000)) 10000)) 100)) * 2))) + 1)) : Int).toNat 0).toNat : Nat) : Int)))) ((0 : Nat) + (IntKind.wrap .i64 (s96.2.1 - 2)) : Int) ((((k0_.getD ((IntKind.wrap .u32 (((Int.tmod ((Int.tmod (IntKind.wrap .u32 (Int.tmod s96.1 100000000)) 10000)) 100)) * 2)) : Int).toNat 0).toNat : Nat) : Int)))) ((0 : Nat) + (IntKind.wrap .i64 (s96.2.1 - 3)) : Int) ((((k0_.getD ((IntKind.wrap .u32 (((IntKind.wrap .u32 (((IntKind.wrap .u32 (Int.tdiv ((Int.tmod (IntKind.wrap .u32 (Int.tmod s96.1 100000000)) 10000)) 100))) * 2))) + 1)) : Int).toNat 0).toNat : Nat) : Int)))).flatMap (encI .u8)).length) (tr2 := [([], []), ([], []), ([], []), ([], []), ([], []), ([], []), ([], []), ([], []), ([], []), ([], []), ([], []), ([], []), ([0, 1], [0]), ([], []), ([0, 1], [0])]) (H2 := [.box (((setAt ((setAt ((setAt ((setAt s96.2.2 ((0 : Nat) + (IntKind.wrap .i64 (s96.2.1 - 1)) : Int) ((((k0_.getD ((IntKind.wrap .u32 (((IntKind.wrap .u32 (((Int.tmod ((Int.tmod (IntKind.wrap .u32 (Int.tmod s96.1 100000000)) 10000)) 100)) * 2))) + 1)) : Int).toNat 0).toNat : Nat) : Int)))) ((0 : Nat) + (IntKind.wrap .i64 (s96.2.1 - 2)) : Int) ((((k0_.getD ((IntKind.wrap .u32 (((Int.tmod ((Int.tmod (IntKind.wrap .u32 (Int.tmod s96.1 100000000)) 10000)) 100)) * 2)) : Int).toNat 0).toNat : Nat) : Int)))) ((0 : Nat) + (IntKind.wrap .i64 (s96.2.1 - 3)) : Int) ((((k0_.getD ((IntKind.wrap .u32 (((IntKind.wrap .u32 (((IntKind.wrap .u32 (Int.tdiv ((Int.tmod (IntKind.wrap .u32 (Int.tmod s96.1 100000000)) 10000)) 100))) * 2))) + 1)) : Int).toNat 0).toNat : Nat) : Int)))) ((0 : Nat) + (IntKind.wrap .i64 (s96.2.1 - 4)) : Int) ((((k0_.getD ((IntKind.wrap .u32 (((IntKind.wrap .u32 (Int.tdiv ((Int.tmod (IntKind.wrap .u32 (Int.tmod s96.1 100000000)) 10000)) 100))) * 2)) : Int).toNat 0).toNat : Nat) : Int)))).flatMap (encI .u8))]) (by kernel_rfl) (storeB_ok (encI_len .u8) hm) (fun hc => N.storeB (o := 0) (encI_len .u8) hm) (by kernel_rfl) ?_
   refine kEN ?_
   refine kS ?_
   refine J.keep [0, 1, 4, 10, 11] (L2 := [(0, .sl 0 0 x0.toNat 1), (1, .int .u64 (IntKind.wrap .u64 (Int.tdiv s96.1 100000000))), (4, .int .i64 s96.2.1), (10, .int .u32 ((IntKind.wrap .u32 (((IntKind.wrap .u32 (Int.tdiv ((IntKind.wrap .u32 (Int.tdiv (IntKind.wrap .u32 (Int.tmod s96.1 100000000)) 10000))) 100))) * 2)))), (11, .int .u32 ((IntKind.wrap .u32 (((Int.tmod ((IntKind.wrap .u32 (Int.tdiv (IntKind.wrap .u32 (Int.tmod s96.1 100000000)) 10000))) 100)) * 2))))]) (by kernel_rfl) ?_
   refine K.draw (by kernel_rfl) (by kernel_rfl) (by kernel_rfl) (H2 := [.box (((setAt ((setAt ((setAt ((setAt s96.2.2 ((0 : Nat) + (IntKind.wrap .i64 (s96.2.1 - 1)) : Int) ((((k0_.getD ((IntKind.wrap .u32 (((IntKind.wrap .u32 (((Int.tmod ((Int.tmod (IntKind.wrap .u32 (Int.tmod s96.1 100000000)) 10000)) 100)) * 2))) + 1)) : Int).toNat 0).toNat : Nat) : Int)))) ((0 : Nat) + (IntKind.wrap .i64 (s96.2.1 - 2)) : Int) ((((k0_.getD ((IntKind.wrap .u32 (((Int.tmod ((Int.tmod (IntKind.wrap .u32 (Int.tmod s96.1 100000000)) 10000)) 100)) * 2)) : Int).toNat 0).toNat : Nat) : Int)))) ((0 : Nat) + (IntKind.wrap .i64 (s96.2.1 - 3)) : Int) ((((k0_.getD ((IntKind.wrap .u32 (((IntKind.wrap .u32 (((IntKind.wrap .u32 (Int.tdiv ((Int.tmod (IntKind.wrap .u32 (Int.tmod s96.1 100000000)) 10000)) 100))) * 2))) + 1)) : Int).toNat 0).toNat : Nat) : Int)))) ((0 : Nat) + (IntKind.wrap .i64 (s96.2.1 - 4)) : Int) ((((k0_.getD ((IntKind.wrap .u32 (((IntKind.wrap .u32 (Int.tdiv ((Int.tmod (IntKind.wrap .u32 (Int.tmod s96.1 100000000)) 10000)) 100))) * 2)) : Int).toNat 0).toNat : Nat) : Int)))).flatMap (encI .u8))]) (by kernel_rfl) (n := 1) (by kernel_rfl) ?_
   refine kD 8 ?_
   obtain ⟨hm, h172⟩ := asrt h171
   refine RJ.rel (d := (some 76)) (ef := ⟨.int .u8 (((k0_.getD ((IntKind.wrap .u32 (((IntKind.wrap .u32 (((Int.tmod ((IntKind.wrap .u32 (Int.tdiv (IntKind.wrap .u32 (Int.tmod s96.1 100000000)) 10000))) 100)) * 2))) + 1)) : Int).toNat 0).toNat : Nat) : Int), [], []⟩) (ef' := ⟨.int .u8 (((k0_.getD ((IntKind.wrap .u32 (((IntKind.wrap .u32 (((Int.tmod ((IntKind.wrap .u32 (Int.tdiv (IntKind.wrap .u32 (Int.tmod s96.1 100000000)) 10000))) 100)) * 2))) + 1)) : Int).toNat 0).toNat : Nat) : Int), [], []⟩) (c := inR ((IntKind.wrap .u32 (((IntKind.wrap .u32 (((Int.tmod ((IntKind.wrap .u32 (Int.tdiv (IntKind.wrap .u32 (Int.tmod s96.1 100000000)) 10000))) 100)) * 2))) + 1))) k0_.length) (tr2 := [([], []), ([], []), ([], []), ([], []), ([], []), ([], []), ([], []), ([], []), ([], [])]) (H2 := [.box (((setAt ((setAt ((setAt ((setAt s96.2.2 ((0 : Nat) + (IntKind.wrap .i64 (s96.2.1 - 1)) : Int) ((((k0_.getD ((IntKind.wrap .u32 (((IntKind.wrap .u32 (((Int.tmod ((Int.tmod (IntKind.wrap .u32 (Int.tmod s96.1 100000000)) 10000)) 100)) * 2))) + 1)) : Int).toNat 0).toNat : Nat) : Int)))) ((0 : Nat) + (IntKind.wrap .i64 (s96.2.1 - 2)) : Int) ((((k0_.getD ((IntKind.wrap .u32 (((Int.tmod ((Int.tmod (IntKind.wrap .u32 (Int.tmod s96.1 100000000)) 10000)) 100)) * 2)) : Int).toNat 0).toNat : Nat) : Int)))) ((0 : Nat) + (IntKind.wrap .i64 (s96.2.1 - 3)) : Int) ((((k0_.getD ((IntKind.wrap .u32 (((IntKind.wrap .u32 (((IntKind.wrap .u32 (Int.tdiv ((Int.tmod (IntKind.wrap .u32 (Int.tmod s96.1 100000000)) 10000)) 100))) * 2))) + 1)) : Int).toNat 0).toNat : Nat) : Int)))) ((0 : Nat) + (IntKind.wrap .i64 (s96.2.1 - 4)) : Int) ((((k0_.getD ((IntKind.wrap .u32 (((IntKind.wrap .u32 (Int.tdiv ((Int.tmod (IntKind.wrap .u32 (Int.tmod s96.1 100000000)) 10000)) 100))) * 2)) : Int).toNat 0).toNat : Nat) : Int)))).flatMap (encI .u8))]) (by kernel_rfl) hm (fun hc => rfl) (by kernel_rfl) ?_
   refine RJ.segD 1 (tr2 := [([], []), ([], []), ([], []), ([], []), ([], []), ([], []), ([], []), ([], []), ([], []), ([], [])]) (L2 := [(77, .int .u32 ((IntKind.wrap .u32 (((Int.tmod ((IntKind.wrap .u32 (Int.tdiv (IntKind.wrap .u32 (Int.tmod s96.1 100000000)) 10000))) 100)) * 2)))), (76, .int .u8 ((((k0_.getD ((IntKind.wrap .u32 (((IntKind.wrap .u32 (((Int.tmod ((IntKind.wrap .u32 (Int.tdiv (IntKind.wrap .u32 (Int.tmod s96.1 100000000)) 10000))) 100)) * 2))) + 1)) : Int).toNat 0).toNat : Nat) : Int))), (75, .int .u32 ((IntKind.wrap .u32 (((IntKind.wrap .u32 (((Int.tmod ((IntKind.wrap .u32 (Int.tdiv (IntKind.wrap .u32 (Int.tmod s96.1 100000000)) 10000))) 100)) * 2))) + 1)))), (74, .int .u32 ((IntKind.wrap .u32 (((Int.tmod ((IntKind.wrap .u32 (Int.tdiv (IntKind.wrap .u32 (Int.tmod s96.1 100000000)) 10000))) 100)) * 2)))), (73, .int .i64 (IntKind.wrap .i64 (s96.2.1 - 6))), (72, .int .i64 s96.2.1), (71, .sl 0 0 x0.toNat 1), (70, .int .i64 (IntKind.wrap .i64 (s96.2.1 - 5))), (69, .int .i64 s96.2.1), (68, .sl 0 0 x0.toNat 1), (0, .sl 0 0 x0.toNat 1), (1, .int .u64 (IntKind.wrap .u64 (Int.tdiv s96.1 100000000))), (4, .int .i64 s96.2.1), (10, .int .u32 ((IntKind.wrap .u32 (((IntKind.wrap .u32 (Int.tdiv ((IntKind.wrap .u32 (Int.tdiv (IntKind.wrap .u32 (Int.tmod s96.1 100000000)) 10000))) 100))) * 2)))), (11, .int .u32 ((IntKind.wrap .u32 (((Int.tmod ((IntKind.wrap .u32 (Int.tdiv (IntKind.wrap .u32 (Int.tmod s96.1 100000000)) 10000))) 100)) * 2))))]) (H2 := [.box (((setAt ((setAt ((setAt ((setAt s96.2.2 ((0 : Nat) + (IntKind.wrap .i64 (s96.2.1 - 1)) : Int) ((((k0_.getD ((IntKind.wrap .u32 (((IntKind.wrap .u32 (((Int.tmod ((Int.tmod (IntKind.wrap .u32 (Int.tmod s96.1 100000000)) 10000)) 100)) * 2))) + 1)) : Int).toNat 0).toNat : Nat) : Int)))) ((0 : Nat) + (IntKind.wrap .i64 (s96.2.1 - 2)) : Int) ((((k0_.getD ((IntKind.wrap .u32 (((Int.tmod ((Int.tmod (IntKind.wrap .u32 (Int.tmod s96.1 100000000)) 10000)) 100)) * 2)) : Int).toNat 0).toNat : Nat) : Int)))) ((0 : Nat) + (IntKind.wrap .i64 (s96.2.1 - 3)) : Int) ((((k0_.getD ((IntKind.wrap .u32 (((IntKind.wrap .u32 (((IntKind.wrap .u32 (Int.tdiv ((Int.tmod (IntKind.wrap .u32 (Int.tmod s96.1 100000000)) 10000)) 100))) * 2))) + 1)) : Int).toNat 0).toNat : Nat) : Int)))) ((0 : Nat) + (IntKind.wrap .i64 (s96.2.1 - 4)) : Int) ((((k0_.getD ((IntKind.wrap .u32 (((IntKind.wrap .u32 (Int.tdiv ((Int.tmod (IntKind.wrap .u32 (Int.tmod s96.1 100000000)) 10000)) 100))) * 2)) : Int).toNat 0).toNat : Nat) : Int)))).flatMap (encI .u8))]) (by kernel_rfl) ?_
   obtain ⟨hm, h173⟩ := asrt h172
   refine RJ.rel (d := (some 78)) (ef := ⟨.int .u8 (((k0_.getD ((IntKind.wrap .u32 (((Int.tmod ((IntKind.wrap .u32 (Int.tdiv (IntKind.wrap .u32 (Int.tmod s96.1 100000000)) 10000))) 100)) * 2)) : Int).toNat 0).toNat : Nat) : Int), [], []⟩) (ef' := ⟨.int .u8 (((k0_.getD ((IntKind.wrap .u32 (((Int.tmod ((IntKind.wrap .u32 (Int.tdiv (IntKind.wrap .u32 (Int.tmod s96.1 100000000)) 10000))) 100)) * 2)) : Int).toNat 0).toNat : Nat) : Int), [], []⟩) (c := inR ((IntKind.wrap .u32 (((Int.tmod ((IntKind.wrap .u32 (Int.tdiv (IntKind.wrap .u32 (Int.tmod s96.1 100000000)) 10000))) 100)) * 2))) k0_.length) (tr2 := [([], []), ([], []), ([], []), ([], []), ([], []), ([], []), ([], []), ([], []), ([], []), ([], []), ([], [])]) (H2 := [.box (((setAt ((setAt ((setAt ((setAt s96.2.2 ((0 : Nat) + (IntKind.wrap .i64 (s96.2.1 - 1)) : Int) ((((k0_.getD ((IntKind.wrap .u32 (((IntKind.wrap .u32 (((Int.tmod ((Int.tmod (IntKind.wrap .u32 (Int.tmod s96.1 100000000)) 10000)) 100)) * 2))) + 1)) : Int).toNat 0).toNat : Nat) : Int)))) ((0 : Nat) + (IntKind.wrap .i64 (s96.2.1 - 2)) : Int) ((((k0_.getD ((IntKind.wrap .u32 (((Int.tmod ((Int.tmod (IntKind.wrap .u32 (Int.tmod s96.1 100000000)) 10000)) 100)) * 2)) : Int).toNat 0).toNat : Nat) : Int)))) ((0 : Nat) + (IntKind.wrap .i64 (s96.2.1 - 3)) : Int) ((((k0_.getD ((IntKind.wrap .u32 (((IntKind.wrap .u32 (((IntKind.wrap .u32 (Int.tdiv ((Int.tmod (IntKind.wrap .u32 (Int.tmod s96.1 100000000)) 10000)) 100))) * 2))) + 1)) : Int).toNat 0).toNat : Nat) : Int)))) ((0 : Nat) + (IntKind.wrap .i64 (s96.2.1 - 4)) : Int) ((((k0_.getD ((IntKind.wrap .u32 (((IntKind.wrap .u32 (Int.tdiv ((Int.tmod (IntKind.wrap .u32 (Int.tmod s96.1 100000000)) 10000)) 100))) * 2)) : Int).toNat 0).toNat : Nat) : Int)))).flatMap (encI .u8))]) (by kernel_rfl) hm (fun hc => rfl) (by kernel_rfl) ?_
   obtain ⟨hm, h174⟩ := asrt h173
   refine RJ.rel (d := (some 79)) (ef := ⟨.ptr 0 (0 + ((IntKind.wrap .i64 (s96.2.1 - 5)) : Int).toNat * 1), [], []⟩) (ef' := ⟨.ptr 0 (0 + ((IntKind.wrap .i64 (s96.2.1 - 5)) : Int).toNat * 1), [], []⟩) (c := inR (IntKind.wrap .i64 (s96.2.1 - 5)) x0.toNat) (tr2 := [([], []), ([], []), ([], []), ([], []), ([], []), ([], []), ([], []), ([], []), ([], []), ([], []), ([], []), ([], [])]) (H2 := [.box (((setAt ((setAt ((setAt ((setAt s96.2.2 ((0 : Nat) + (IntKind.wrap .i64 (s96.2.1 - 1)) : Int) ((((k0_.getD ((IntKind.wrap .u32 (((IntKind.wrap .u32 (((Int.tmod ((Int.tmod (IntKind.wrap .u32 (Int.tmod s96.1 100000000)) 10000)) 100)) * 2))) + 1)) : Int).toNat 0).toNat : Nat) : Int)))) ((0 : Nat) + (IntKind.wrap .i64 (s96.2.1 - 2)) : Int) ((((k0_.getD ((IntKind.wrap .u32 (((Int.tmod ((Int.tmod (IntKind.wrap .u32 (Int.tmod s96.1 100000000)) 10000)) 100)) * 2)) : Int).toNat 0).toNat : Nat) : Int)))) ((0 : Nat) + (IntKind.wrap .i64 (s96.2.1 - 3)) : Int) ((((k0_.getD ((IntKind.wrap .u32 (((IntKind.wrap .u32 (((IntKind.wrap .u32 (Int.tdiv ((Int.tmod (IntKind.wrap .u32 (Int.tmod s96.1 100000000)) 10000)) 100))) * 2))) + 1)) : Int).toNat 0).toNat : Nat) : Int)))) ((0 : Nat) + (IntKind.wrap .i64 (s96.2.1 - 4)) : Int) ((((k0_.getD ((IntKind.wrap .u32 (((IntKind.wrap .u32 (Int.tdiv ((Int.tmod (IntKind.wrap .u32 (Int.tmod s96.1 100000000)) 10000)) 100))) * 2)) : Int).toNat 0).toNat : Nat) : Int)))).flatMap (encI .u8))]) (by kernel_rfl) hm (fun hc => rfl) (by kernel_rfl) ?_
   obtain ⟨hm, h175⟩ := asrt h174
   refine RJ.relS (d := none) (ef := ⟨.undef, [0], [(0, .box (splice (((setAt ((setAt ((setAt ((setAt s96.2.2 ((0 : Nat) + (IntKind.wrap .i64 (s96.2.1 - 1)) : Int) ((((k0_.getD ((IntKind.wrap .u32 (((IntKind.wrap .u32 (((Int.tmod ((Int.tmod (IntKind.wrap .u32 (Int.tmod s96.1 100000000)) 10000)) 100)) * 2))) + 1)) : Int).toNat 0).toNat : Nat) : Int)))) ((0 : Nat) + (IntKind.wrap .i64 (s96.2.1 - 2)) : Int) ((((k0_.getD ((IntKind.wrap .u32 (((Int.tmod ((Int.tmod (IntKind.wrap .u32 (Int.tmod s96.1 100000000)) 10000)) 100)) * 2)) : Int).toNat 0).toNat : Nat) : Int)))) ((0 : Nat) + (IntKind.wrap .i64 (s96.2.1 - 3)) : Int) ((((k0_.getD ((IntKind.wrap .u32 (((IntKind.wrap .u32 (((IntKind.wrap .u32 (Int.tdiv ((Int.tmod (IntKind.wrap .u32 (Int.tmod s96.1 100000000)) 10000)) 100))) * 2))) + 1)) : Int).toNat 0).toNat : Nat) : Int)))) ((0 : Nat) + (IntKind.wrap .i64 (s96.2.1 - 4)) : Int) ((((k0_.getD ((IntKind.wrap .u32 (((IntKind.wrap .u32 (Int.tdiv ((Int.tmod (IntKind.wrap .u32 (Int.tmod s96.1 100000000)) 10000)) 100))) * 2)) : Int).toNat 0).toNat : Nat) : Int)))).flatMap (encI .u8)) (0 * 1 + ((IntKind.wrap .i64 (s96.2.1 - 5)) : Int).toNat * 1) ((encI .u8) ((((k0_.getD ((IntKind.wrap .u32 (((IntKind.wrap .u32 (((Int.tmod ((IntKind.wrap .u32 (Int.tdiv (IntKind.wrap .u32 (Int.tmod s96.1 100000000)) 10000))) 100)) * 2))) + 1)) : Int).toNat 0).toNat : Nat) : Int)))))]⟩) (ef' := ⟨.undef, [0], [(0, .box ((setAt ((setAt ((setAt ((setAt ((setAt s96.2.2 ((0 : Nat) + (IntKind.wrap .i64 (s96.2.1 - 1)) : Int) ((((k0_.getD ((IntKind.wrap .u32 (((IntKind.wrap .u32 (((Int.tmod ((Int.tmod (IntKind.wrap .u32 (Int.tmod s96.1 100000000)) 10000)) 100)) * 2))) + 1)) : Int).toNat 0).toNat : Nat) : Int)))) ((0 : Nat) + (IntKind.wrap .i64 (s96.2.1 - 2)) : Int) ((((k0_.getD ((IntKind.wrap .u32 (((Int.tmod ((Int.tmod (IntKind.wrap .u32 (Int.tmod s96.1 100000000)) 10000)) 100)) * 2)) : Int).toNat 0).toNat : Nat) : Int)))) ((0 : Nat) + (IntKind.wrap .i64 (s96.2.1 - 3)) : Int) ((((k0_.getD ((IntKind.wrap .u32 (((IntKind.wrap .u32 (((IntKind.wrap .u32 (Int.tdiv ((Int.tmod (IntKind.wrap .u32 (Int.tmod s96.1 100000000)) 10000)) 100))) * 2))) + 1)) : Int).toNat 0).toNat : Nat) : Int)))) ((0 : Nat) + (IntKind.wrap .i64 (s96.2.1 - 4)) : Int) ((((k0_.getD ((IntKind.wrap .u32 (((IntKind.wrap .u32 (Int.tdiv ((Int.tmod (IntKind.wrap .u32 (Int.tmod s96.1 100000000)) 10000)) 100))) * 2)) : Int).toNat 0).toNat : Nat) : Int)))) ((0 : Nat) + (IntKind.wrap .i64 (s96.2.1 - 5)) : Int) ((((k0_.getD ((IntKind.wrap .u32 (((IntKind.wrap .u32 (((Int.tmod ((IntKind.wrap .u32 (Int.tdiv (IntKind.wrap .u32 (Int.tmod s96.1 100000000)) 10000))) 100)) * 2))) + 1)) : Int).toNat 0).toNat : Nat) : Int))).flatMap (encI .u8)))]⟩) (c := Nat.ble (0 * 1 + ((IntKind.wrap .i64 (s96.2.1 - 5)) : Int).toNat * 1 + ((encI .u8) ((((k0_.getD ((IntKind.wrap .u32 (((IntKind.wrap .u32 (((Int.tmod ((IntKind.wrap .u32 (Int.tdiv (IntKind.wrap .u32 (Int.tmod s96.1 100000000)) 10000))) 100)) * 2))) + 1)) : Int).toNat 0).toNat : Nat) : Int))).length) (((setAt ((setAt ((setAt ((setAt s96.2.2 ((0 : Nat) + (IntKind.wrap .i64 (s96.2.1 - 1)) : Int) ((((k0_.getD ((IntKind.wrap .u32 (((IntKind.wrap .u32 (((Int.tmod ((Int.tmod (IntKind.wrap .u32 (Int.tmod s96.1 100000000)) 10000)) 100)) * 2))) + 1)) : Int).toNat 0).toNat : Nat) : Int)))) ((0 : Nat) + (IntKind.wrap .i64 (s96.2.1 - 2)) : Int) ((((k0_.getD ((IntKind.wrap .u32 (((Int.tmod ((Int.tmod (IntKind.wrap .u32 (Int.tmod s96.1 100000000)) 10000)) 100)) * 2)) : Int).toNat 0).toNat : Nat) : Int)))) ((0 : Nat) + (IntKind.wrap .i64 (s96.2.1 - 3)) : Int) ((((k0_.getD ((IntKind.wrap .u32 (((IntKind.wrap .u32 (((IntKind.wrap .u32 (Int.tdiv ((Int.tmod (IntKind.wrap .u32 (Int.tmod s96.1 100000000)) 10000)) 100))) * 2))) + 1)) : Int).toNat 0).toNat : Nat) : Int)))) ((0 : Nat) + (IntKind.wrap .i64 (s96.2.1 - 4)) : Int) ((((k0_.getD ((IntKind.wrap .u32 (((IntKind.wrap .u32 (Int.tdiv ((Int.tmod (IntKind.wrap .u32 (Int.tmod s96.1 100000000)) 10000)) 100))) * 2)) : Int).toNat 0).toNat : Nat) : Int)))).flatMap (encI .u8)).length) (tr2 := [([], []), ([], []), ([], []), ([], []), ([], []), ([], []), ([], []), ([], []), ([], []), ([], []), ([], []), ([], []), ([0, 1], [0])]) (H2 := [.box (((setAt ((setAt ((setAt ((setAt ((setAt s96.2.2 ((0 : Nat) + (IntKind.wrap .i64 (s96.2.1 - 1)) : Int) ((((k0_.getD ((IntKind.wrap .u32 (((IntKind.wrap .u32 (((Int.tmod ((Int.tmod (IntKind.wrap .u32 (Int.tmod s96.1 100000000)) 10000)) 100)) * 2))) + 1)) : Int).toNat 0).toNat : Nat) : Int)))) ((0 : Nat) + (IntKind.wrap .i64 (s96.2.1 - 2)) : Int) ((((k0_.getD ((IntKind.wrap .u32 (((Int.tmod ((Int.tmod (IntKind.wrap .u32 (Int.tmod s96.1 100000000)) 10000)) 100)) * 2)) : Int).toNat 0).toNat : Nat) : Int)))) ((0 : Nat) + (IntKind.wrap .i64 (s96.2.1 - 3)) : Int) ((((k0_.getD ((IntKind.wrap .u32 (((IntKind.wrap .u32 (((IntKind.wrap .u32 (Int.tdiv ((Int.tmod (IntKind.wrap .u32 (Int.tmod s96.1 100000000)) 10000)) 100))) * 2))) + 1)) : Int).toNat 0).toNat : Nat) : Int)))) ((0 : Nat) + (IntKind.wrap .i64 (s96.2.1 - 4)) : Int) ((((k0_.getD ((IntKind.wrap .u32 (((IntKind.wrap .u32 (Int.tdiv ((Int.tmod (IntKind.wrap .u32 (Int.tmod s96.1 100000000)) 10000)) 100))) * 2)) : Int).toNat 0).toNat : Nat) : Int)))) ((0 : Nat) + (IntKind.wrap .i64 (s96.2.1 - 5)) : Int) ((((k0_.getD ((IntKind.wrap .u32 (((IntKind.wrap .u32 (((Int.tmod ((IntKind.wrap .u32 (Int.tdiv (IntKind.wrap .u32 (Int.tmod s96.1 100000000)) 10000))) 100)) * 2))) + 1)) : Int).toNat 0).toNat : Nat) : Int)))).flatMap (encI .u8))]) (by kernel_rfl) (storeB_ok (encI_len .u8) hm) (fun hc => N.storeB (o := 0) (encI_len .u8) hm) (by kernel_rfl) ?_
   obtain ⟨hm, h176⟩ := asrt h175
   refine RJ.rel (d := (some 80)) (ef := ⟨.ptr 0 (0 + ((IntKind.wrap .i64 (s96.2.1 - 6)) : Int).toNat * 1), [], []⟩) (ef' := ⟨.ptr 0 (0 + ((IntKind.wrap .i64 (s96.2.1 - 6)) : Int).toNat * 1), [], []⟩) (c := inR (IntKind.wrap .i64 (s96.2.1 - 6)) x0.toNat) (tr2 := [([], []), ([], []), ([], []), ([], []), ([], []), ([], []), ([], []), ([], []), ([], []), ([], []), ([], []), ([], []), ([0, 1], [0]), ([], [])]) (H2 := [.box (((setAt ((setAt ((setAt ((setAt ((setAt s96.2.2 ((0 : Nat) + (IntKind.wrap .i64 (s96.2.1 - 1)) : Int) ((((k0_.getD ((IntKind.wrap .u32 (((IntKind.wrap .u32 (((Int.tmod ((Int.tmod (IntKind.wrap .u32 (Int.tmod s96.1 100000000)) 10000)) 100)) * 2))) + 1)) : Int).toNat 0).toNat : Nat) : Int)))) ((0 : Nat) + (IntKind.wrap .i64 (s96.2.1 - 2)) : Int) ((((k0_.getD ((IntKind.wrap .u32 (((Int.tmod ((Int.tmod (IntKind.wrap .u32 (Int.tmod s96.1 100000000)) 10000)) 100)) * 2)) : Int).toNat 0).toNat : Nat) : Int)))) ((0 : Nat) + (IntKind.wrap .i64 (s96.2.1 - 3)) : Int) ((((k0_.getD ((IntKind.wrap .u32 (((IntKind.wrap .u32 (((IntKind.wrap .u32 (Int.tdiv ((Int.tmod (IntKind.wrap .u32 (Int.tmod s96.1 100000000)) 10000)) 100))) * 2))) + 1)) : Int).toNat 0).toNat : Nat) : Int)))) ((0 : Nat) + (IntKind.wrap .i64 (s96.2.1 - 4)) : Int) ((((k0_.getD ((IntKind.wrap .u32 (((IntKind.wrap .u32 (Int.tdiv ((Int.tmod (IntKind.wrap .u32 (Int.tmod s96.1 100000000)) 10000)) 100))) * 2)) : Int).toNat 0).toNat : Nat) : Int)))) ((0 : Nat) + (IntKind.wrap .i64 (s96.2.1 - 5)) : Int) ((((k0_.getD ((IntKind.wrap .u32 (((IntKind.wrap .u32 (((Int.tmod ((IntKind.wrap .u32 (Int.tdiv (IntKind.wrap .u32 (Int.tmod s96.1 100000000)) 10000))) 100)) * 2))) + 1)) : Int).toNat 0).toNat : Nat) : Int)))).flatMap (encI .u8))]) (by kernel_rfl) hm (fun hc => rfl) (by kernel_rfl) ?_
   obtain ⟨hm, h177⟩ := asrt h176
   refine RJ.relS (d := none) (ef := ⟨.undef, [0], [(0, .box (splice (((setAt ((setAt ((setAt ((setAt ((setAt s96.2.2 ((0 : Nat) + (IntKind.wrap .i64 (s96.2.1 - 1)) : Int) ((((k0_.getD ((IntKind.wrap .u32 (((IntKind.wrap .u32 (((Int.tmod ((Int.tmod (IntKind.wrap .u32 (Int.tmod s96.1 100000000)) 10000)) 100)) * 2))) + 1)) : Int).toNat 0).toNat : Nat) : Int)))) ((0 : Nat) + (IntKind.wrap .i64 (s96.2.1 - 2)) : Int) ((((k0_.getD ((IntKind.wrap .u32 (((Int.tmod ((Int.tmod (IntKind.wrap .u32 (Int.tmod s96.1 100000000)) 10000)) 100)) * 2)) : Int).toNat 0).toNat : Nat) : Int)))) ((0 : Nat) + (IntKind.wrap .i64 (s96.2.1 - 3)) : Int) ((((k0_.getD ((IntKind.wrap .u32 (((IntKind.wrap .u32 (((IntKind.wrap .u32 (Int.tdiv ((Int.tmod (IntKind.wrap .u32 (Int.tmod s96.1 100000000)) 10000)) 100))) * 2))) + 1)) : Int).toNat 0).toNat : Nat) : Int)))) ((0 : Nat) + (IntKind.wrap .i64 (s96.2.1 - 4)) : Int) ((((k0_.getD ((IntKind.wrap .u32 (((IntKind.wrap .u32 (Int.tdiv ((Int.tmod (IntKind.wrap .u32 (Int.tmod s96.1 100000000)) 10000)) 100))) * 2)) : Int).toNat 0).toNat : Nat) : Int)))) ((0 : Nat) + (IntKind.wrap .i64 (s96.2.1 - 5)) : Int) ((((k0_.getD ((IntKind.wrap .u32 (((IntKind.wrap .u32 (((Int.tmod ((IntKind.wrap .u32 (Int.tdiv (IntKind.wrap .u32 (Int.tmod s96.1 100000000)) 10000))) 100)) * 2))) + 1)) : Int).toNat 0).toNat : Nat) : Int)))).flatMap (encI .u8)) (0 * 1 + ((IntKind.wrap .i64 (s96.2.1 - 6)) : Int).toNat * 1) ((encI .u8) ((((k0_.getD ((IntKind.wrap .u32 (((Int.tmod ((IntKind.wrap .u32 (Int.tdiv (IntKind.wrap .u32 (Int.tmod s96.1 100000000)) 10000))) 100)) * 2)) : Int).toNat 0).toNat : Nat) : Int)))))]⟩) (ef' := ⟨.undef, [0], [(0, .box ((setAt ((setAt ((setAt ((setAt ((setAt ((setAt s96.2.2 ((0 : Nat) + (IntKind.wrap .i64 (s96.2.1 - 1)) : Int) ((((k0_.getD ((IntKind.wrap .u32 (((IntKind.wrap .u32 (((Int.tmod ((Int.tmod (IntKind.wrap .u32 (Int.tmod s96.1 100000000)) 10000)) 100)) * 2))) + 1)) : Int).toNat 0).toNat : Nat) : Int)))) ((0 : Nat) + (IntKind.wrap .i64 (s96.2.1 - 2)) : Int) ((((k0_.getD ((IntKind.wrap .u32 (((Int.tmod ((Int.tmod (IntKind.wrap .u32 (Int.tmod s96.1 100000000)) 10000)) 100)) * 2)) : Int).toNat 0).toNat : Nat) : Int)))) ((0 : Nat) + (IntKind.wrap .i64 (s96.2.1 - 3)) : Int) ((((k0_.getD ((IntKind.wrap .u32 (((IntKind.wrap .u32 (((IntKind.wrap .u32 (Int.tdiv ((Int.tmod (IntKind.wrap .u32 (Int.tmod s96.1 100000000)) 10000)) 100))) * 2))) + 1)) : Int).toNat 0).toNat : Nat) : Int)))) ((0 : Nat) + (IntKind.wrap .i64 (s96.2.1 - 4)) : Int) ((((k0_.getD ((IntKind.wrap .u32 (((IntKind.wrap .u32 (Int.tdiv ((Int.tmod (IntKind.wrap .u32 (Int.tmod s96.1 100000000)) 10000)) 100))) * 2)) : Int).toNat 0).toNat : Nat) : Int)))) ((0 : Nat) + (IntKind.wrap .i64 (s96.2.1 - 5)) : Int) ((((k0_.getD ((IntKind.wrap .u32 (((IntKind.wrap .u32 (((Int.tmod ((IntKind.wrap .u32 (Int.tdiv (IntKind.wrap .u32 (Int.tmod s96.1 100000000)) 10000))) 100)) * 2))) + 1)) : Int).toNat 0).toNat : Nat) : Int)))) ((0 : Nat) + (IntKind.wrap .i64 (s96.2.1 - 6)) : Int) ((((k0_.getD ((IntKind.wrap .u32 (((Int.tmod ((IntKind.wrap .u32 (Int.tdiv (IntKind.wrap .u32 (Int.tmod s96.1 100000000)) 10000))) 100)) * 2)) : Int).toNat 0).toNat : Nat) : Int))).flatMap (encI .u8)))]⟩) (c := Nat.ble (0 * 1 + ((IntKind.wrap .i64 (s96.2.1 - 6)) : Int).toNat * 1 + ((encI .u8) ((((k0_.getD ((IntKind.wrap .u32 (((Int.tmod ((IntKind.wrap .u32 (Int.tdiv (IntKind.wrap .u32 (Int.tmod s96.1 100000000)) 10000))) 100)) * 2)) : Int).toNat 0).toNat : Nat) : Int))).length) (((setAt ((setAt ((setAt ((setAt ((setAt s96.2.2 ((0 : Nat) + (IntKind.wrap .i64 (s96.2.1 - 1)) : Int) ((((k0_.getD ((IntKind.wrap .u32 (((IntKind.wrap .u32 (((Int.tmod ((Int.tmod (IntKind.wrap .u32 (Int.tmod s96.1 100000000)) 10000)) 100)) * 2))) + 1)) : Int).toNat 0).toNat : Nat) : Int)))) ((0 : Nat) + (IntKind.wrap .i64 (s96.2.1 - 2)) : Int) ((((k0_.getD ((IntKind.wrap .u32 (((Int.tmod ((Int.tmod (IntKind.wrap .u32 (Int.tmod s96.1 100000000)) 10000)) 100)) * 2)) : Int).toNat 0).toNat : Nat) : Int)))) ((0 : Nat) + (IntKind.wrap .i64 (s96.2.1 - 3)) : Int) ((((k0_.getD ((IntKind.wrap .u32 (((IntKind.wrap .u32 (((IntKind.wrap .u32 (Int.tdiv ((Int.tmod (IntKind.wrap .u32 (Int.tmod s96.1 100000000)) 10000)) 100))) * 2))) + 1)) : Int).toNat 0).toNat : Nat) : Int)))) ((0 : Nat) + (IntKind.wrap .i64 (s96.2.1 - 4)) : Int) ((((k0_.getD ((IntKind.wrap .u32 (((IntKind.wrap .u32 (Int.tdiv ((Int.tmod (IntKind.wrap .u32 (Int.tmod s96.1 100000000)) 10000)) 100))) * 2)) : Int).toNat 0).toNat : Nat) : Int)))) ((0 : Nat) + (IntKind.wrap .i64 (s96.2.1 - 5)) : Int) ((((k0_.getD ((IntKind.wrap .u32 (((IntKind.wrap .u32 (((Int.tmod ((IntKind.wrap .u32 (Int.tdiv (IntKind.wrap .u32 (Int.tmod s96.1 100000000)) 10000))) 100)) * 2))) + 1)) : Int).toNat 0).toNat : Nat) : Int)))).flatMap (encI .u8)).length) (tr2 := [([], []), ([], []), ([], []), ([], []), ([], []), ([], []), ([], []), ([], []), ([], []), ([], []), ([], []), ([], []), ([0, 1], [0]), ([], []), ([0, 1], [0])]) (H2 := [.box (((setAt ((setAt ((setAt ((setAt ((setAt ((setAt s96.2.2 ((0 : Nat) + (IntKind.wrap .i64 (s96.2.1 - 1)) : Int) ((((k0_.getD ((IntKind.wrap .u32 (((IntKind.wrap .u32 (((Int.tmod ((Int.tmod (IntKind.wrap .u32 (Int.tmod s96.1 100000000)) 10000)) 100)) * 2))) + 1)) : Int).toNat 0).toNat : Nat) : Int)))) ((0 : Nat) + (IntKind.wrap .i64 (s96.2.1 - 2)) : Int) ((((k0_.getD ((IntKind.wrap .u32 (((Int.tmod ((Int.tmod (IntKind.wrap .u32 (Int.tmod s96.1 100000000)) 10000)) 100)) * 2)) : Int).toNat 0).toNat : Nat) : Int)))) ((0 : Nat) + (IntKind.wrap .i64 (s96.2.1 - 3)) : Int) ((((k0_.getD ((IntKind.wrap .u32 (((IntKind.wrap .u32 (((IntKind.wrap .u32 (Int.tdiv ((Int.tmod (IntKind.wrap .u32 (Int.tmod s96.1 100000000)) 10000)) 100))) * 2))) + 1)) : Int).toNat 0).toNat : Nat) : Int)))) ((0 : Nat) + (IntKind.wrap .i64 (s96.2.1 - 4)) : Int) ((((k0_.getD ((IntKind.wrap .u32 (((IntKind.wrap .u32 (Int.tdiv ((Int.tmod (IntKind.wrap .u32 (Int.tmod s96.1 100000000)) 10000)) 100))) * 2)) : Int).toNat 0).toNat : Nat) : Int)))) ((0 : Nat) + (IntKind.wrap .i64 (s96.2.1 - 5)) : Int) ((((k0_.getD ((IntKind.wrap .u32 (((IntKind.wrap .u32 (((Int.tmod ((IntKind.wrap .u32 (Int.tdiv (IntKind.wrap .u32 (Int.tmod s96.1 100000000)) 10000))) 100)) * 2))) + 1)) : Int).toNat 0).toNat : Nat) : Int)))) ((0 : Nat) + (IntKind.wrap .i64 (s96.2.1 - 6)) : Int) ((((k0_.getD ((IntKind.wrap .u32 (((Int.tmod ((IntKind.wrap .u32 (Int.tdiv (IntKind.wrap .u32 (Int.tmod s96.1 100000000)) 10000))) 100)) * 2)) : Int).toNat 0).toNat : Nat) : Int)))).flatMap (encI .u8))]) (by kernel_rfl) (storeB_ok (encI_len .u8) hm) (fun hc => N.storeB (o := 0) (encI_len .u8) hm) (by kernel_rfl) ?_
   refine kEN ?_
   refine kS ?_
   refine J.keep [0, 1, 4, 10] (L2 := [(0, .sl 0 0 x0.toNat 1), (1, .int .u64 (IntKind.wrap .u64 (Int.tdiv s96.1 100000000))), (4, .int .i64 s96.2.1), (10, .int .u32 ((IntKind.wrap .u32 (((IntKind.wrap .u32 (Int.tdiv ((IntKind.wrap .u32 (Int.tdiv (IntKind.wrap .u32 (Int.tmod s96.1 100000000)) 10000))) 100))) * 2))))]) (by kernel_rfl) ?_
   refine K.draw (by kernel_rfl) (by kernel_rfl) (by kernel_rfl) (H2 := [.box (((setAt ((setAt ((setAt ((setAt ((setAt ((setAt s96.2.2 ((0 : Nat) + (IntKind.wrap .i64 (s96.2.1 - 1)) : Int) ((((k0_.getD ((IntKind.wrap .u32 (((IntKind.wrap .u32 (((Int.tmod ((Int.tmod (IntKind.wrap .u32 (Int.tmod s96.1 100000000)) 10000)) 100)) * 2))) + 1)) : Int).toNat 0).toNat : Nat) : Int)))) ((0 : Nat) + (IntKind.wrap .i64 (s96.2.1 - 2)) : Int) ((((k0_.getD ((IntKind.wrap .u32 (((Int.tmod ((Int.tmod (IntKind.wrap .u32 (Int.tmod s96.1 100000000)) 10000)) 100)) * 2)) : Int).toNat 0).toNat : Nat) : Int)))) ((0 : Nat) + (IntKind.wrap .i64 (s96.2.1 - 3)) : Int) ((((k0_.getD ((IntKind.wrap .u32 (((IntKind.wrap .u32 (((IntKind.wrap .u32 (Int.tdiv ((Int.tmod (IntKind.wrap .u32 (Int.tmod s96.1 100000000)) 10000)) 100))) * 2))) + 1)) : Int).toNat 0).toNat : Nat) : Int)))) ((0 : Nat) + (IntKind.wrap .i64 (s96.2.1 - 4)) : Int) ((((k0_.getD ((IntKind.wrap .u32 (((IntKind.wrap .u32 (Int.tdiv ((Int.tmod (IntKind.wrap .u32 (Int.tmod s96.1 100000000)) 10000)) 100))) * 2)) : Int).toNat 0).toNat : Nat) : Int)))) ((0 : Nat) + (IntKind.wrap .i64 (s96.2.1 - 5)) : Int) ((((k0_.getD ((IntKind.wrap .u32 (((IntKind.wrap .u32 (((Int.tmod ((IntKind.wrap .u32 (Int.tdiv (IntKind.wrap .u32 (Int.tmod s96.1 100000000)) 10000))) 100)) * 2))) + 1)) : Int).toNat 0).toNat : Nat) : Int)))) ((0 : Nat) + (IntKind.wrap .i64 (s96.2.1 - 6)) : Int) ((((k0_.getD ((IntKind.wrap .u32 (((Int.tmod ((IntKind.wrap .u32 (Int.tdiv (IntKind.wrap .u32 (Int.tmod s96.1 100000000)) 10000))) 100)) * 2)) : Int).toNat 0).toNat : Nat) : Int)))).flatMap (encI .u8))]) (by kernel_rfl) (n := 1) (by kernel_rfl) ?_
   refine kD 8 ?_
   obtain ⟨hm, h178⟩ := asrt h177
   refine RJ.rel (d := (some 89)) (ef := ⟨.int .u8 (((k0_.getD ((IntKind.wrap .u32 (((IntKind.wrap .u32 (((IntKind.wrap .u32 (Int.tdiv ((IntKind.wrap .u32 (Int.tdiv (IntKind.wrap .u32 (Int.tmod s96.1 100000000)) 10000))) 100))) * 2))) + 1)) : Int).toNat 0).toNat : Nat) : Int), [], []⟩) (ef' := ⟨.int .u8 (((k0_.getD ((IntKind.wrap .u32 (((IntKind.wrap .u32 (((IntKind.wrap .u32 (Int.tdiv ((IntKind.wrap .u32 (Int.tdiv (IntKind.wrap .u32 (Int.tmod s96.1 100000000)) 10000))) 100))) * 2))) + 1)) : Int).toNat 0).toNat : Nat) : Int), [], []⟩) (c := inR ((IntKind.wrap .u32 (((IntKind.wrap .u32 (((IntKind.wrap .u32 (Int.tdiv ((IntKind.wrap .u32 (Int.tdiv (IntKind.wrap .u32 (Int.tmod s96.1 100000000)) 10000))) 100))) * 2))) + 1))) k0_.length) (tr2 := [([], []), ([], []), ([], []), ([], []), ([], []), ([], []), ([], []), ([], []), ([], [])]) (H2 := [.box (((setAt ((setAt ((setAt ((setAt ((setAt ((setAt s96.2.2 ((0 : Nat) + (IntKind.wrap .i64 (s96.2.1 - 1)) : Int) ((((k0_.getD ((IntKind.wrap .u32 (((IntKind.wrap .u32 (((Int.tmod ((Int.tmod (IntKind.wrap .u32 (Int.tmod s96.1 100000000)) 10000)) 100)) * 2))) + 1)) : Int).toNat 0).toNat : Nat) : Int)))) ((0 : Nat) + (IntKind.wrap .i64 (s96.2.1 - 2)) : Int) ((((k0_.getD ((IntKind.wrap .u32 (((Int.tmod ((Int.tmod (IntKind.wrap .u32 (Int.tmod s96.1 100000000)) 10000)) 100)) * 2)) : Int).toNat 0).toNat : Nat) : Int)))) ((0 : Nat) + (IntKind.wrap .i64 (s96.2.1 - 3)) : Int) ((((k0_.getD ((IntKind.wrap .u32 (((IntKind.wrap .u32 (((IntKind.wrap .u32 (Int.tdiv ((Int.tmod (IntKind.wrap .u32 (Int.tmod s96.1 100000000)) 10000)) 100))) * 2))) + 1)) : Int).toNat 0).toNat : Nat) : Int)))) ((0 : Nat) + (IntKind.wrap .i64 (s96.2.1 - 4)) : Int) ((((k0_.getD ((IntKind.wrap .u32 (((IntKind.wrap .u32 (Int.tdiv ((Int.tmod (IntKind.wrap .u32 (Int.tmod s96.1 100000000)) 10000)) 100))) * 2)) : Int).toNat 0).toNat : Nat) : Int)))) ((0 : Nat) + (IntKind.wrap .i64 (s96.2.1 - 5)) : Int) ((((k0_.getD ((IntKind.wrap .u32 (((IntKind.wrap .u32 (((Int.tmod ((IntKind.wrap .u32 (Int.tdiv (IntKind.wrap .u32 (Int.tmod s96.1 100000000)) 10000))) 100)) * 2))) + 1)) : Int).toNat 0).toNat : Nat) : Int)))) ((0 : Nat) + (IntKind.wrap .i64 (s96.2.1 - 6)) : Int) ((((k0_.getD ((IntKind.wrap .u32 (((Int.tmod ((IntKind.wrap .u32 (Int.tdiv (IntKind.wrap .u32 (Int.tmod s96.1 100000000)) 10000))) 100)) * 2)) : Int).toNat 0).toNat : Nat) : Int)))).flatMap (encI .u8))]) (by kernel_rfl) hm (fun hc => rfl) (by kernel_rfl) ?_
   refine kD 1 ?_
   obtain ⟨hm, h179⟩ := asrt h178
   refine RJ.rel (d := (some 91)) (ef := ⟨.int .u8 (((k0_.getD ((IntKind.wrap .u32 (((IntKind.wrap .u32 (Int.tdiv ((IntKind.wrap .u32 (Int.tdiv (IntKind.wrap .u32 (Int.tmod s96.1 100000000)) 10000))) 100))) * 2)) : Int).toNat 0).toNat : Nat) : Int), [], []⟩) (ef' := ⟨.int .u8 (((k0_.getD ((IntKind.wrap .u32 (((IntKind.wrap .u32 (Int.tdiv ((IntKind.wrap .u32 (Int.tdiv (IntKind.wrap .u32 (Int.tmod s96.1 100000000)) 10000))) 100))) * 2)) : Int).toNat 0).toNat : Nat) : Int), [], []⟩) (c := inR ((IntKind.wrap .u32 (((IntKind.wrap .u32 (Int.tdiv ((IntKind.wrap .u32 (Int.tdiv (IntKind.wrap .u32 (Int.tmod s96.1 100000000)) 10000))) 100))) * 2))) k0_.length) (tr2 := [([], []), ([], []), ([], []), ([], []), ([], []), ([], []), ([], []), ([], []), ([], []), ([], []), ([], [])]) (H2 := [.box (((setAt ((setAt ((setAt ((setAt ((setAt ((setAt s96.2.2 ((0 : Nat) + (IntKind.wrap .i64 (s96.2.1 - 1)) : Int) ((((k0_.getD ((IntKind.wrap .u32 (((IntKind.wrap .u32 (((Int.tmod ((Int.tmod (IntKind.wrap .u32 (Int.tmod s96.1 100000000)) 10000)) 100)) * 2))) + 1)) : Int).toNat 0).toNat : Nat) : Int)))) ((0 : Nat) + (IntKind.wrap .i64 (s96.2.1 - 2)) : Int) ((((k0_.getD ((IntKind.wrap .u32 (((Int.tmod ((Int.tmod (IntKind.wrap .u32 (Int.tmod s96.1 100000000)) 10000)) 100)) * 2)) : Int).toNat 0).toNat : Nat) : Int)))) ((0 : Nat) + (IntKind.wrap .i64 (s96.2.1 - 3)) : Int) ((((k0_.getD ((IntKind.wrap .u32 (((IntKind.wrap .u32 (((IntKind.wrap .u32 (Int.tdiv ((Int.tmod (IntKind.wrap .u32 (Int.tmod s96.1 100000000)) 10000)) 100))) * 2))) + 1)) : Int).toNat 0).toNat : Nat) : Int)))) ((0 : Nat) + (IntKind.wrap .i64 (s96.2.1 - 4)) : Int) ((((k0_.getD ((IntKind.wrap .u32 (((IntKind.wrap .u32 (Int.tdiv ((Int.tmod (IntKind.wrap .u32 (Int.tmod s96.1 100000000)) 10000)) 100))) * 2)) : Int).toNat 0).toNat : Nat) : Int)))) ((0 : Nat) + (IntKind.wrap .i64 (s96.2.1 - 5)) : Int) ((((k0_.getD ((IntKind.wrap .u32 (((IntKind.wrap .u32 (((Int.tmod ((IntKind.wrap .u32 (Int.tdiv (IntKind.wrap .u32 (Int.tmod s96.1 100000000)) 10000))) 100)) * 2))) + 1)) : Int).toNat 0).toNat : Nat) : Int)))) ((0 : Nat) + (IntKind.wrap .i64 (s96.2.1 - 6)) : Int) ((((k0_.getD ((IntKind.wrap .u32 (((Int.tmod ((IntKind.wrap .u32 (Int.tdiv (IntKind.wrap .u32 (Int.tmod s96.1 100000000)) 10000))) 100)) * 2)) : Int).toNat 0).toNat : Nat) : Int)))).flatMap (encI .u8))]) (by kernel_rfl) hm (fun hc => rfl) (by kernel_rfl) ?_
   obtain ⟨hm, h180⟩ := asrt h179
   refine RJ.rel (d := (some 92)) (ef := ⟨.ptr 0 (0 + ((IntKind.wrap .i64 (s96.2.1 - 7)) : Int).toNat * 1), [], []⟩) (ef' := ⟨.ptr 0 (0 + ((IntKind.wrap .i64 (s96.2.1 - 7)) : Int).toNat * 1), [], []⟩) (c := inR (IntKind.wrap .i64 (s96.2.1 - 7)) x0.toNat) (tr2 := [([], []), ([], []), ([], []), ([], []), ([], []), ([], []), ([], []), ([], []), ([], []), ([], []), ([], []), ([], [])]) (H2 := [.box (((setAt ((setAt ((setAt ((setAt ((setAt ((setAt s96.2.2 ((0 : Nat) + (IntKind.wrap .i64 (s96.2.1 - 1)) : Int) ((((k0_.getD ((IntKind.wrap .u32 (((IntKind.wrap .u32 (((Int.tmod ((Int.tmod (IntKind.wrap .u32 (Int.tmod s96.1 100000000)) 10000)) 100)) * 2))) + 1)) : Int).toNat 0).toNat : Nat) : Int)))) ((0 : Nat) + (IntKind.wrap .i64 (s96.2.1 - 2)) : Int) ((((k0_.getD ((IntKind.wrap .u32 (((Int.tmod ((Int.tmod (IntKind.wrap .u32 (Int.tmod s96.1 100000000)) 10000)) 100)) * 2)) : Int).toNat 0).toNat : Nat) : Int)))) ((0 : Nat) + (IntKind.wrap .i64 (s96.2.1 - 3)) : Int) ((((k0_.getD ((IntKind.wrap .u32 (((IntKind.wrap .u32 (((IntKind.wrap .u32 (Int.tdiv ((Int.tmod (IntKind.wrap .u32 (Int.tmod s96.1 100000000)) 10000)) 100))) * 2))) + 1)) : Int).toNat 0).toNat : Nat) : Int)))) ((0 : Nat) + (IntKind.wrap .i64 (s96.2.1 - 4)) : Int) ((((k0_.getD ((IntKind.wrap .u32 (((IntKind.wrap .u32 (Int.tdiv ((Int.tmod (IntKind.wrap .u32 (Int.tmod s96.1 100000000)) 10000)) 100))) * 2)) : Int).toNat 0).toNat : Nat) : Int)))) ((0 : Nat) + (IntKind.wrap .i64 (s96.2.1 - 5)) : Int) ((((k0_.getD ((IntKind.wrap .u32 (((IntKind.wrap .u32 (((Int.tmod ((IntKind.wrap .u32 (Int.tdiv (IntKind.wrap .u32 (Int.tmod s96.1 100000000)) 10000))) 100)) * 2))) + 1)) : Int).toNat 0).toNat : Nat) : Int)))) ((0 : Nat) + (IntKind.wrap .i64 (s96.2.1 - 6)) : Int) ((((k0_.getD ((IntKind.wrap .u32 (((Int.tmod ((IntKind.wrap .u32 (Int.tdiv (IntKind.wrap .u32 (Int.tmod s96.1 100000000)) 10000))) 100)) * 2)) : Int).toNat 0).toNat : Nat) : Int)))).flatMap (encI .u8))]) (by kernel_rfl) hm (fun hc => rfl) (by kernel_rfl) ?_
   obtain ⟨hm, h181⟩ := asrt h180
   refine RJ.relS (d := none) (ef := ⟨.undef, [0], [(0, .box (splice (((setAt ((setAt ((setAt ((setAt ((setAt ((setAt s96.2.2 ((0 : Nat) + (IntKind.wrap .i64 (s96.2.1 - 1)) : Int) ((((k0_.getD ((IntKind.wrap .u32 (((IntKind.wrap .u32 (((Int.tmod ((Int.tmod (IntKind.wrap .u32 (Int.tmod s96.1 100000000)) 10000)) 100)) * 2))) + 1)) : Int).toNat 0).toNat : Nat) : Int)))) ((0 : Nat) + (IntKind.wrap .i64 (s96.2.1 - 2)) : Int) ((((k0_.getD ((IntKind.wrap .u32 (((Int.tmod ((Int.tmod (IntKind.wrap .u32 (Int.tmod s96.1 100000000)) 10000)) 100)) * 2)) : Int).toNat 0).toNat : Nat) : Int)))) ((0 : Nat) + (IntKind.wrap .i64 (s96.2.1 - 3)) : Int) ((((k0_.getD ((IntKind.wrap .u32 (((IntKind.wrap .u32 (((IntKind.wrap .u32 (Int.tdiv ((Int.tmod (IntKind.wrap .u32 (Int.tmod s96.1 100000000)) 10000)) 100))) * 2))) + 1)) : Int).toNat 0).toNat : Nat) : Int)))) ((0 : Nat) + (IntKind.wrap .i64 (s96.2.1 - 4)) : Int) ((((k0_.getD ((IntKind.wrap .u32 (((IntKind.wrap .u32 (Int.tdiv ((Int.tmod (IntKind.wrap .u32 (Int.tmod s96.1 100000000)) 10000)) 100))) * 2)) : Int).toNat 0).toNat : Nat) : Int)))) ((0 : Nat) + (IntKind.wrap .i64 (s96.2.1 - 5)) : Int) ((((k0_.getD ((IntKind.wrap .u32 (((IntKind.wrap .u32 (((Int.tmod ((IntKind.wrap .u32 (Int.tdiv (IntKind.wrap .u32 (Int.tmod s96.1 100000000)) 10000))) 100)) * 2))) + 1)) : Int).toNat 0).toNat : Nat) : Int)))) ((0 : Nat) + (IntKind.wrap .i64 (s96.2.1 - 6)) : Int) ((((k0_.getD ((IntKind.wrap .u32 (((Int.tmod ((IntKind.wrap .u32 (Int.tdiv (IntKind.wrap .u32 (Int.tmod s96.1 100000000)) 10000))) 100)) * 2)) : Int).toNat 0).toNat : Nat) : Int)))).flatMap (encI .u8)) (0 * 1 + ((IntKind.wrap .i64 (s96.2.1 - 7)) : Int).toNat * 1) ((encI .u8) ((((k0_.getD ((IntKind.wrap .u32 (((IntKind.wrap .u32 (((IntKind.wrap .u32 (Int.tdiv ((IntKind.wrap .u32 (Int.tdiv (IntKind.wrap .u32 (Int.tmod s96.1 100000000)) 10000))) 100))) * 2))) + 1)) : Int).toNat 0).toNat : Nat) : Int)))))]⟩) (ef' := ⟨.undef, [0], [(0, .box ((setAt ((setAt ((setAt ((setAt ((setAt ((setAt ((setAt s96.2.2 ((0 : Nat) + (IntKind.wrap .i64 (s96.2.1 - 1)) : Int) ((((k0_.getD ((IntKind.wrap .u32 (((IntKind.wrap .u32 (((Int.tmod ((Int.tmod (IntKind.wrap .u32 (Int.tmod s96.1 100000000)) 10000)) 100)) * 2))) + 1)) : Int).toNat 0).toNat : Nat) : Int)))) ((0 : Nat) + (IntKind.wrap .i64 (s96.2.1 - 2)) : Int) ((((k0_.getD ((IntKind.wrap .u32 (((Int.tmod ((Int.tmod (IntKind.wrap .u32 (Int.tmod s96.1 100000000)) 10000)) 100)) * 2)) : Int).toNat 0).toNat : Nat) : Int)))) ((0 : Nat) + (IntKind.wrap .i64 (s96.2.1 - 3)) : Int) ((((k0_.getD ((IntKind.wrap .u32 (((IntKind.wrap .u32 (((IntKind.wrap .u32 (Int.tdiv ((Int.tmod (IntKind.wrap .u32 (Int.tmod s96.1 100000000)) 10000)) 100))) * 2))) + 1)) : Int).toNat 0).toNat : Nat) : Int)))) ((0 : Nat) + (IntKind.wrap .i64 (s96.2.1 - 4)) : Int) ((((k0_.getD ((IntKind.wrap .u32 (((IntKind.wrap .u32 (Int.tdiv ((Int.tmod (IntKind.wrap .u32 (Int.tmod s96.1 100000000)) 10000)) 100))) * 2)) : Int).toNat 0).toNat : Nat) : Int)))) ((0 : Nat) + (IntKind.wrap .i64 (s96.2.1 - 5)) : Int) ((((k0_.getD ((IntKind.wrap .u32 (((IntKind.wrap .u32 (((Int.tmod ((IntKind.wrap .u32 (Int.tdiv (IntKind.wrap .u32 (Int.tmod s96.1 100000000)) 10000))) 100)) * 2))) + 1)) : Int).toNat 0).toNat : Nat) : Int)))) ((0 : Nat) + (IntKind.wrap .i64 (s96.2.1 - 6)) : Int) ((((k0_.getD ((IntKind.wrap .u32 (((Int.tmod ((IntKind.wrap .u32 (Int.tdiv (IntKind.wrap .u32 (Int.tmod s96.1 100000000)) 10000))) 100)) * 2)) : Int).toNat 0).toNat : Nat) : Int)))) ((0 : Nat) + (IntKind.wrap .i64 (s96.2.1 - 7)) : Int) ((((k0_.getD ((IntKind.wrap .u32 (((IntKind.wrap .u32 (((IntKind.wrap .u32 (Int.tdiv ((IntKind.wrap .u32 (Int.tdiv (IntKind.wrap .u32 (Int.tmod s96.1 100000000)) 10000))) 100))) * 2))) + 1)) : Int).toNat 0).toNat : Nat) : Int))).flatMap (encI .u8)))]⟩) (c := Nat.ble (0 * 1 + ((IntKind.wrap .i64 (s96.2.1 - 7)) : Int).toNat * 1 + ((encI .u8) ((((k0_.getD ((IntKind.wrap .u32 (((IntKind.wrap .u32 (((IntKind.wrap .u32 (Int.tdiv ((IntKind.wrap .u32 (Int.tdiv (IntKind.wrap .u32 (Int.tmod s96.1 100000000)) 10000))) 100))) * 2))) + 1)) : Int).toNat 0).toNat : Nat) : Int))).length) (((setAt ((setAt ((setAt ((setAt ((setAt ((setAt s96.2.2 ((0 : Nat) + (IntKind.wrap .i64 (s96.2.1 - 1)) : Int) ((((k0_.getD ((IntKind.wrap .u32 (((IntKind.wrap .u32 (((Int.tmod ((Int.tmod (IntKind.wrap .u32 (Int.tmod s96.1 100000000)) 10000)) 100)) * 2))) + 1)) : Int).toNat 0).toNat : Nat) : Int)))) ((0 : Nat) + (IntKind.wrap .i64 (s96.2.1 - 2)) : Int) ((((k0_.getD ((IntKind.wrap .u32 (((Int.tmod ((Int.tmod (IntKind.wrap .u32 (Int.tmod s96.1 100000000)) 10000)) 100)) * 2)) : Int).toNat 0).toNat : Nat) : Int)))) ((0 : Nat) + (IntKind.wrap .i64 (s96.2.1 - 3)) : Int) ((((k0_.getD ((IntKind.wrap .u32 (((IntKind.wrap .u32 (((IntKind.wrap .u32 (Int.tdiv ((Int.tmod (IntKind.wrap .u32 (Int.tmod s96.1 100000000)) 10000)) 100))) * 2))) + 1)) : Int).toNat 0).toNat : Nat) : Int)))) ((0 : Nat) + (IntKind.wrap .i64 (s96.2.1 - 4)) : Int) ((((k0_.getD ((IntKind.wrap .u32 (((IntKind.wrap .u32 (Int.tdiv ((Int.tmod (IntKind.wrap .u32 (Int.tmod s96.1 100000000)) 10000)) 100))) * 2)) : Int).toNat 0).toNat : Nat) : Int)))) ((0 : Nat) + (IntKind.wrap .i64 (s96.2.1 - 5)) : Int) ((((k0_.getD ((IntKind.wrap .u32 (((IntKind.wrap .u32 (((Int.tmod ((IntKind.wrap .u32 (Int.tdiv (IntKind.wrap .u32 (Int.tmod s96.1 100000000)) 10000))) 100)) * 2))) + 1)) : Int).toNat 0).toNat : Nat) : Int)))) ((0 : Nat) + (IntKind.wrap .i64 (s96.2.1 - 6)) : Int) ((((k0_.getD ((IntKind.wrap .u32 (((Int.tmod ((IntKind.wrap .u32 (Int.tdiv (IntKind.wrap .u32 (Int.tmod s96.1 100000000)) 10000))) 100)) * 2)) : Int).toNat 0).toNat : Nat) : Int)))).flatMap (encI .u8)).length) (tr2 := [([], []), ([], []), ([], []), ([], []), ([], []), ([], []), ([], []), ([], []), ([], []), ([], []), ([], []), ([], []), ([0, 1], [0])]) (H2 := [.box (((setAt ((setAt ((setAt ((setAt ((setAt ((setAt ((setAt s96.2.2 ((0 : Nat) + (IntKind.wrap .i64 (s96.2.1 - 1)) : Int) ((((k0_.getD ((IntKind.wrap .u32 (((IntKind.wrap .u32 (((Int.tmod ((Int.tmod (IntKind.wrap .u32 (Int.tmod s96.1 100000000)) 10000)) 100)) * 2))) + 1)) : Int).toNat 0).toNat : Nat) : Int)))) ((0 : Nat) + (IntKind.wrap .i64 (s96.2.1 - 2)) : Int) ((((k0_.getD ((IntKind.wrap .u32 (((Int.tmod ((Int.tmod (IntKind.wrap .u32 (Int.tmod s96.1 100000000)) 10000)) 100)) * 2)) : Int).toNat 0).toNat : Nat) : Int)))) ((0 : Nat) + (IntKind.wrap .i64 (s96.2.1 - 3)) : Int) ((((k0_.getD ((IntKind.wrap .u32 (((IntKind.wrap .u32 (((IntKind.wrap .u32 (Int.tdiv ((Int.tmod (IntKind.wrap .u32 (Int.tmod s96.1 100000000)) 10000)) 100))) * 2))) + 1)) : Int).toNat 0).toNat : Nat) : Int)))) ((0 : Nat) + (IntKind.wrap .i64 (s96.2.1 - 4)) : Int) ((((k0_.getD ((IntKind.wrap .u32 (((IntKind.wrap .u32 (Int.tdiv ((Int.tmod (IntKind.wrap .u32 (Int.tmod s96.1 100000000)) 10000)) 100))) * 2)) : Int).toNat 0).toNat : Nat) : Int)))) ((0 : Nat) + (IntKind.wrap .i64 (s96.2.1 - 5)) : Int) ((((k0_.getD ((IntKind.wrap .u32 (((IntKind.wrap .u32 (((Int.tmod ((IntKind.wrap .u32 (Int.tdiv (IntKind.wrap .u32 (Int.tmod s96.1 100000000)) 10000))) 100)) * 2))) + 1)) : Int).toNat 0).toNat : Nat) : Int)))) ((0 : Nat) + (IntKind.wrap .i64 (s96.2.1 - 6)) : Int) ((((k0_.getD ((IntKind.wrap .u32 (((Int.tmod ((IntKind.wrap .u32 (Int.tdiv (IntKind.wrap .u32 (Int.tmod s96.1 100000000)) 10000))) 100)) * 2)) : Int).toNat 0).toNat : Nat) : Int)))) ((0 : Nat) + (IntKind.wrap .i64 (s96.2.1 - 7)) : Int) ((((k0_.getD ((IntKind.wrap .u32 (((IntKind.wrap .u32 (((IntKind.wrap .u32 (Int.tdiv ((IntKind.wrap .u32 (Int.tdiv (IntKind.wrap .u32 (Int.tmod s96.1 100000000)) 10000))) 100))) * 2))) + 1)) : Int).toNat 0).toNat : Nat) : Int)))).flatMap (encI .u8))]) (by kernel_rfl) (storeB_ok (encI_len .u8) hm) (fun hc => N.storeB (o := 0) (encI_len .u8) hm) (by kernel_rfl) ?_
   obtain ⟨hm, h182⟩ := asrt h181
   refine RJ.rel (d := (some 93)) (ef := ⟨.ptr 0 (0 + ((IntKind.wrap .i64 (s96.2.1 - 8)) : Int).toNat * 1), [], []⟩) (ef' := ⟨.ptr 0 (0 + ((IntKind.wrap .i64 (s96.2.1 - 8)) : Int).toNat * 1), [], []⟩) (c := inR (IntKind.wrap .i64 (s96.2.1 - 8)) x0.toNat) (tr2 := [([], []), ([], []), ([], []), ([], []), ([], []), ([], []), ([], []), ([], []), ([], []), ([], []), ([], []), ([], []), ([0, 1], [0]), ([], [])]) (H2 := [.box (((setAt ((setAt ((setAt ((setAt ((setAt ((setAt ((setAt s96.2.2 ((0 : Nat) + (IntKind.wrap .i64 (s96.2.1 - 1)) : Int) ((((k0_.getD ((IntKind.wrap .u32 (((IntKind.wrap .u32 (((Int.tmod ((Int.tmod (IntKind.wrap .u32 (Int.tmod s96.1 100000000)) 10000)) 100)) * 2))) + 1)) : Int).toNat 0).toNat : Nat) : Int)))) ((0 : Nat) + (IntKind.wrap .i64 (s96.2.1 - 2)) : Int) ((((k0_.getD ((IntKind.wrap .u32 (((Int.tmod ((Int.tmod (IntKind.wrap .u32 (Int.tmod s96.1 100000000)) 10000)) 100)) * 2)) : Int).toNat 0).toNat : Nat) : Int)))) ((0 : Nat) + (IntKind.wrap .i64 (s96.2.1 - 3)) : Int) ((((k0_.getD ((IntKind.wrap .u32 (((IntKind.wrap .u32 (((IntKind.wrap .u32 (Int.tdiv ((Int.tmod (IntKind.wrap .u32 (Int.tmod s96.1 100000000)) 10000)) 100))) * 2))) + 1)) : Int).toNat 0).toNat : Nat) : Int)))) ((0 : Nat) + (IntKind.wrap .i64 (s96.2.1 - 4)) : Int) ((((k0_.getD ((IntKind.wrap .u32 (((IntKind.wrap .u32 (Int.tdiv ((Int.tmod (IntKind.wrap .u32 (Int.tmod s96.1 100000000)) 10000)) 100))) * 2)) : Int).toNat 0).toNat : Nat) : Int)))) ((0 : Nat) + (IntKind.wrap .i64 (s96.2.1 - 5)) : Int) ((((k0_.getD ((IntKind.wrap .u32 (((IntKind.wrap .u32 (((Int.tmod ((IntKind.wrap .u32 (Int.tdiv (IntKind.wrap .u32 (Int.tmod s96.1 100000000)) 10000))) 100)) * 2))) + 1)) : Int).toNat 0).toNat : Nat) : Int)))) ((0 : Nat) + (IntKind.wrap .i64 (s96.2.1 - 6)) : Int) ((((k0_.getD ((IntKind.wrap .u32 (((Int.tmod ((IntKind.wrap .u32 (Int.tdiv (IntKind.wrap .u32 (Int.tmod s96.1 100000000)) 10000))) 100)) * 2)) : Int).toNat 0).toNat : Nat) : Int)))) ((0 : Nat) + (IntKind.wrap .i64 (s96.2.1 - 7)) : Int) ((((k0_.getD ((IntKind.wrap .u32 (((IntKind.wrap .u32 (((IntKind.wrap .u32 (Int.tdiv ((IntKind.wrap .u32 (Int.tdiv (IntKind.wrap .u32 (Int.tmod s96.1 100000000)) 10000))) 100))) * 2))) + 1)) : Int).toNat 0).toNat : Nat) : Int)))).flatMap (encI .u8))]) (by kernel_rfl) hm (fun hc => rfl) (by kernel_rfl) ?_
   obtain ⟨hm, h183⟩ := asrt h182
   refine RJ.relS (d := none) (ef := ⟨.undef, [0], [(0, .box (splice (((setAt ((setAt ((setAt ((setAt ((setAt ((setAt ((setAt s96.2.2 ((0 : Nat) + (IntKind.wrap .i64 (s96.2.1 - 1)) : Int) ((((k0_.getD ((IntKind.wrap .u32 (((IntKind.wrap .u32 (((Int.tmod ((Int.tmod (IntKind.wrap .u32 (Int.tmod s96.1 100000000)) 10000)) 100)) * 2))) + 1)) : Int).toNat 0).toNat : Nat) : Int)))) ((0 : Nat) + (IntKind.wrap .i64 (s96.2.1 - 2)) : Int) ((((k0_.getD ((IntKind.wrap .u32 (((Int.tmod ((Int.tmod (IntKind.wrap .u32 (Int.tmod s96.1 100000000)) 10000)) 100)) * 2)) : Int).toNat 0).toNat : Nat) : Int)))) ((0 : Nat) + (IntKind.wrap .i64 (s96.2.1 - 3)) : Int) ((((k0_.getD ((IntKind.wrap .u32 (((IntKind.wrap .u32 (((IntKind.wrap .u32 (Int.tdiv ((Int.tmod (IntKind.wrap .u32 (Int.tmod s96.1 100000000)) 10000)) 100))) * 2))) + 1)) : Int).toNat 0).toNat : Nat) : Int)))) ((0 : Nat) + (IntKind.wrap .i64 (s96.2.1 - 4)) : Int) ((((k0_.getD ((IntKind.wrap .u32 (((IntKind.wrap .u32 (Int.tdiv ((Int.tmod (IntKind.wrap .u32 (Int.tmod s96.1 100000000)) 10000)) 100))) * 2)) : Int).toNat 0).toNat : Nat) : Int)))) ((0 : Nat) + (IntKind.wrap .i64 (s96.2.1 - 5)) : Int) ((((k0_.getD ((IntKind.wrap .u32 (((IntKind.wrap .u32 (((Int.tmod ((IntKind.wrap .u32 (Int.tdiv (IntKind.wrap .u32 (Int.tmod s96.1 100000000)) 10000))) 100)) * 2))) + 1)) : Int).toNat 0).toNat : Nat) : Int)))) ((0 : Nat) + (IntKind.wrap .i64 (s96.2.1 - 6)) : Int) ((((k0_.getD ((IntKind.wrap .u32 (((Int.tmod ((IntKind.wrap .u32 (Int.tdiv (IntKind.wrap .u32 (Int.tmod s96.1 100000000)) 10000))) 100)) * 2)) : Int).toNat 0).toNat : Nat) : Int)))) ((0 : Nat) + (IntKind.wrap .i64 (s96.2.1 - 7)) : Int) ((((k0_.getD ((IntKind.wrap .u32 (((IntKind.wrap .u32 (((IntKind.wrap .u32 (Int.tdiv ((IntKind.wrap .u32 (Int.tdiv (IntKind.wrap .u32 (Int.tmod s96.1 100000000)) 10000))) 100))) * 2))) + 1)) : Int).toNat 0).toNat : Nat) : Int)))).flatMap (encI .u8)) (0 * 1 + ((IntKind.wrap .i64 (s96.2.1 - 8)) : Int).toNat * 1) ((encI .u8) ((((k0_.getD ((IntKind.wrap .u32 (((IntKind.wrap .u32 (Int.tdiv ((IntKind.wrap .u32 (Int.tdiv (IntKind.wrap .u32 (Int.tmod s96.1 100000000)) 10000))) 100))) * 2)) : Int).toNat 0).toNat : Nat) : Int)))))]⟩) (ef' := ⟨.undef, [0], [(0, .box ((setAt ((setAt ((setAt ((setAt ((setAt ((setAt ((setAt ((setAt s96.2.2 ((0 : Nat) + (IntKind.wrap .i64 (s96.2.1 - 1)) : Int) ((((k0_.getD ((IntKind.wrap .u32 (((IntKind.wrap .u32 (((Int.tmod ((Int.tmod (IntKind.wrap .u32 (Int.tmod s96.1 100000000)) 10000)) 100)) * 2))) + 1)) : Int).toNat 0).toNat : Nat) : Int)))) ((0 : Nat) + (IntKind.wrap .i64 (s96.2.1 - 2)) : Int) ((((k0_.getD ((IntKind.wrap .u32 (((Int.tmod ((Int.tmod (IntKind.wrap .u32 (Int.tmod s96.1 100000000)) 10000)) 100)) * 2)) : Int).toNat 0).toNat : Nat) : Int)))) ((0 : Nat) + (IntKind.wrap .i64 (s96.2.1 - 3)) : Int) ((((k0_.getD ((IntKind.wrap .u32 (((IntKind.wrap .u32 (((IntKind.wrap .u32 (Int.tdiv ((Int.tmod (IntKind.wrap .u32 (Int.tmod s96.1 100000000)) 10000)) 100))) * 2))) + 1)) : Int).toNat 0).toNat : Nat) : Int)))) ((0 : Nat) + (IntKind.wrap .i64 (s96.2.1 - 4)) : Int) ((((k0_.getD ((IntKind.wrap .u32 (((IntKind.wrap .u32 (Int.tdiv ((Int.tmod (IntKind.wrap .u32 (Int.tmod s96.1 100000000)) 10000)) 100))) * 2)) : Int).toNat 0).toNat : Nat) : Int)))) ((0 : Nat) + (IntKind.wrap .i64 (s96.2.1 - 5)) : Int) ((((k0_.getD ((IntKind.wrap .u32 (((IntKind.wrap .u32 (((Int.tmod ((IntKind.wrap .u32 (Int.tdiv (IntKind.wrap .u32 (Int.tmod s96.1 100000000)) 10000))) 100)) * 2))) + 1)) : Int).toNat 0).toNat : Nat) : Int)))) ((0 : Nat) + (IntKind.wrap .i64 (s96.2.1 - 6)) : Int) ((((k0_.getD ((IntKind.wrap .u32 (((Int.tmod ((IntKind.wrap .u32 (Int.tdiv (IntKind.wrap .u32 (Int.tmod s96.1 100000000)) 10000))) 100)) * 2)) : Int).toNat 0).toNat : Nat) : Int)))) ((0 : Nat) + (IntKind.wrap .i64 (s96.2.1 - 7)) : Int) ((((k0_.getD ((IntKind.wrap .u32 (((IntKind.wrap .u32 (((IntKind.wrap .u32 (Int.tdiv ((IntKind.wrap .u32 (Int.tdiv (IntKind.wrap .u32 (Int.tmod s96.1 100000000)) 10000))) 100))) * 2))) + 1)) : Int).toNat 0).toNat : Nat) : Int)))) ((0 : Nat) + (IntKind.wrap .i64 (s96.2.1 - 8)) : Int) ((((k0_.getD ((IntKind.wrap .u32 (((IntKind.wrap .u32 (Int.tdiv ((IntKind.wrap .u32 (Int.tdiv (IntKind.wrap .u32 (Int.tmod s96.1 100000000)) 10000))) 100))) * 2)) : Int).toNat 0).toNat : Nat) : Int))).flatMap (encI .u8)))]⟩) (c := Nat.ble (0 * 1 + ((IntKind.wrap .i64 (s96.2.1 - 8)) : Int).toNat * 1 + ((encI .u8) ((((k0_.getD ((IntKind.wrap .u32 (((IntKind.wrap .u32 (Int.tdiv ((IntKind.wrap .u32 (Int.tdiv (IntKind.wrap .u32 (Int.tmod s96.1 100000000)) 10000))) 100))) * 2)) : Int).toNat 0).toNat : Nat) : Int))).length) (((setAt ((setAt ((setAt ((setAt ((setAt ((setAt ((setAt s96.2.2 ((0 : Nat) + (IntKind.wrap .i64 (s96.2.1 - 1)) : Int) ((((k0_.getD ((IntKind.wrap .u32 (((IntKind.wrap .u32 (((Int.tmod ((Int.tmod (IntKind.wrap .u32 (Int.tmod s96.1 100000000)) 10000)) 100)) * 2))) + 1)) : Int).toNat 0).toNat : Nat) : Int)))) ((0 : Nat) + (IntKind.wrap .i64 (s96.2.1 - 2)) : Int) ((((k0_.getD ((IntKind.wrap .u32 (((Int.tmod ((Int.tmod (IntKind.wrap .u32 (Int.tmod s96.1 100000000)) 10000)) 100)) * 2)) : Int).toNat 0).toNat : Nat) : Int)))) ((0 : Nat) + (IntKind.wrap .i64 (s96.2.1 - 3)) : Int) ((((k0_.getD ((IntKind.wrap .u32 (((IntKind.wrap .u32 (((IntKind.wrap .u32 (Int.tdiv ((Int.tmod (IntKind.wrap .u32 (Int.tmod s96.1 100000000)) 10000)) 100))) * 2))) + 1)) : Int).toNat 0).toNat : Nat) : Int)))) ((0 : Nat) + (IntKind.wrap .i64 (s96.2.1 - 4)) : Int) ((((k0_.getD ((IntKind.wrap .u32 (((IntKind.wrap .u32 (Int.tdiv ((Int.tmod (IntKind.wrap .u32 (Int.tmod s96.1 100000000)) 10000)) 100))) * 2)) : Int).toNat 0).toNat : Nat) : Int)))) ((0 : Nat) + (IntKind.wrap .i64 (s96.2.1 - 5)) : Int) ((((k0_.getD ((IntKind.wrap .u32 (((IntKind.wrap .u32 (((Int.tmod ((IntKind.wrap .u32 (Int.tdiv (IntKind.wrap .u32 (Int.tmod s96.1 100000000)) 10000))) 100)) * 2))) + 1)) : Int).toNat 0).toNat : Nat) : Int)))) ((0 : Nat) + (IntKind.wrap .i64 (s96.2.1 - 6)) : Int) ((((k0_.getD ((IntKind.wrap .u32 (((Int.tmod ((IntKind.wrap .u32 (Int.tdiv (IntKind.wrap .u32 (Int.tmod s96.1 100000000)) 10000))) 100)) * 2)) : Int).toNat 0).toNat : Nat) : Int)))) ((0 : Nat) + (IntKind.wrap .i64 (s96.2.1 - 7)) : Int) ((((k0_.getD ((IntKind.wrap .u32 (((IntKind.wrap .u32 (((IntKind.wrap .u32 (Int.tdiv ((IntKind.wrap .u32 (Int.tdiv (IntKind.wrap .u32 (Int.tmod s96.1 100000000)) 10000))) 100))) * 2))) + 1)) : Int).toNat 0).toNat : Nat) : Int)))).flatMap (encI .u8)).length) (tr2 := [([], []), ([], []), ([], []), ([], []), ([], []), ([], []), ([], []), ([], []), ([], []), ([], []), ([], []), ([], []), ([0, 1], [0]), ([], []), ([0, 1], [0])]) (H2 := [.box (((setAt ((setAt ((setAt ((setAt ((setAt ((setAt ((setAt ((setAt s96.2.2 ((0 : Nat) + (IntKind.wrap .i64 (s96.2.1 - 1)) : Int) ((((k0_.getD ((IntKind.wrap .u32 (((IntKind.wrap .u32 (((Int.tmod ((Int.tmod (IntKind.wrap .u32 (Int.tmod s96.1 100000000)) 10000)) 100)) * 2))) + 1)) : Int).toNat 0).toNat : Nat) : Int)))) ((0 : Nat) + (IntKind.wrap .i64 (s96.2.1 - 2)) : Int) ((((k0_.getD ((IntKind.wrap .u32 (((Int.tmod ((Int.tmod (IntKind.wrap .u32 (Int.tmod s96.1 100000000)) 10000)) 100)) * 2)) : Int).toNat 0).toNat : Nat) : Int)))) ((0 : Nat) + (IntKind.wrap .i64 (s96.2.1 - 3)) : Int) ((((k0_.getD ((IntKind.wrap .u32 (((IntKind.wrap .u32 (((IntKind.wrap .u32 (Int.tdiv ((Int.tmod (IntKind.wrap .u32 (Int.tmod s96.1 100000000)) 10000)) 100))) * 2))) + 1)) : Int).toNat 0).toNat : Nat) : Int)))) ((0 : Nat) + (IntKind.wrap .i64 (s96.2.1 - 4)) : Int) ((((k0_.getD ((IntKind.wrap .u32 (((IntKind.wrap .u32 (Int.tdiv ((Int.tmod (IntKind.wrap .u32 (Int.tmod s96.1 100000000)) 10000)) 100))) * 2)) : Int).toNat 0).toNat : Nat) : Int)))) ((0 : Nat) + (IntKind.wrap .i64 (s96.2.1 - 5)) : Int) ((((k0_.getD ((IntKind.wrap .u32 (((IntKind.wrap .u32 (((Int.tmod ((IntKind.wrap .u32 (Int.tdiv (IntKind.wrap .u32 (Int.tmod s96.1 100000000)) 10000))) 100)) * 2))) + 1)) : Int).toNat 0).toNat : Nat) : Int)))) ((0 : Nat) + (IntKind.wrap .i64 (s96.2.1 - 6)) : Int) ((((k0_.getD ((IntKind.wrap .u32 (((Int.tmod ((IntKind.wrap .u32 (Int.tdiv (IntKind.wrap .u32 (Int.tmod s96.1 100000000)) 10000))) 100)) * 2)) : Int).toNat 0).toNat : Nat) : Int)))) ((0 : Nat) + (IntKind.wrap .i64 (s96.2.1 - 7)) : Int) ((((k0_.getD ((IntKind.wrap .u32 (((IntKind.wrap .u32 (((IntKind.wrap .u32 (Int.tdiv ((IntKind.wrap .u32 (Int.tdiv (IntKind.wrap .u32 (Int.tmod s96.1 100000000)) 10000))) 100))) * 2))) + 1)) : Int).toNat 0).toNat : Nat) : Int)))) ((0 : Nat) + (IntKind.wrap .i64 (s96.2.1 - 8)) : Int) ((((k0_.getD ((IntKind.wrap .u32 (((IntKind.wrap .u32 (Int.tdiv ((IntKind.wrap .u32 (Int.tdiv (IntKind.wrap .u32 (Int.tmod s96.1 100000000)) 10000))) 100))) * 2)) : Int).toNat 0).toNat : Nat) : Int)))).flatMap (encI .u8))]) (by kernel_rfl) (storeB_ok (encI_len .u8) hm) (fun hc => N.storeB (o := 0) (encI_len .u8) hm) (by kernel_rfl) ?_
   refine kEN ?_
   refine kR ?_
   refine kC 3 [0,1,4] ?_
   refine kE ?_
   refine PJ.blockNormal ?_
   obtain rfl := oi h183
   exact PJ.loopNext [0, 1, 4] (by kernel_rfl) (by kernel_rfl)
  ·have h159 := condF hb157 hs155
   refine kF ?_
   refine K.exit 0 (by kernel_rfl) ?_
   refine PJ.passExit ?_
   obtain rfl := oi h159
   refine PJ.loopOut (fun e => nomatch e) (fun he185 => ?_)
   have h184 := congrArg some he185
   refine PJ.blockOut ?_
   obtain rfl := oi h184
   exact kN [0, 1, 4]
 ·refine kSR ?_
  refine kC 3 [0,4,12] ?_
  refine kEN ?_
  obtain ⟨s201, hy203, h205⟩ := bindS h95
  refine K.cutN (by kernel_rfl) (fun (s201 : Int × Int × (List Int)) => ([(0, .sl 0 0 x0.toNat 1), (4, .int .i64 s201.1), (12, .int .u32 s201.2.1)], [.box (s201.2.2.flatMap (encI .u8))])) s201 ?_ ?_
  ·refine kSR ?_
   refine kC 2 [0,4,12,99] ?_
   refine kEN ?_
   refine J.caseB 99 (b := (decide (s91.2.1 ≥ 4))) (by kernel_rfl) (fun hb206 => ?_) (fun hb206 => ?_)
   ·have h207 := condT hb206 hy203
    refine kT ?_
    refine kSR ?_
    refine kC 3 [0,4,12,13] ?_
    refine kEN ?_
    refine kSR ?_
    refine RJ.seg 3 [0, 4, 12, 13] (L2 := [(0, .sl 0 0 x0.toNat 1), (4, .int .i64 s91.2.1), (12, .int .u32 ((IntKind.wrap .u32 (Int.tdiv (IntKind.wrap .u32 s91.1) 10000)))), (13, .int .u32 (Int.tmod (IntKind.wrap .u32 s91.1) 10000))]) (H2 := [.box (s91.2.2.flatMap (encI .u8))]) (by kernel_rfl) ?_
    refine kEN ?_
    refine kSR ?_
    refine kC 8 [0,4,12,14,15] ?_
    refine kEN ?_
    refine kS ?_
    refine J.keep [0, 4, 12, 14, 15] (L2 := [(0, .sl 0 0 x0.toNat 1), (4, .int .i64 s91.2.1), (12, .int .u32 ((IntKind.wrap .u32 (Int.tdiv (IntKind.wrap .u32 s91.1) 10000)))), (14, .int .u32 ((IntKind.wrap .u32 (((IntKind.wrap .u32 (Int.tdiv (Int.tmod (IntKind.wrap .u32 s91.1) 10000) 100))) * 2)))), (15, .int .u32 ((IntKind.wrap .u32 (((Int.tmod (Int.tmod (IntKind.wrap .u32 s91.1) 10000) 100)) * 2))))]) (by kernel_rfl) ?_
    refine K.draw (by kernel_rfl) (by kernel_rfl) (by kernel_rfl) (H2 := [.box (s91.2.2.flatMap (encI .u8))]) (by kernel_rfl) (n := 1) (by kernel_rfl) ?_
    refine kD 8 ?_
    obtain ⟨hm, h209⟩ := asrt h207
    refine RJ.rel (d := (some 118)) (ef := ⟨.int .u8 (((k0_.getD ((IntKind.wrap .u32 (((IntKind.wrap .u32 (((Int.tmod (Int.tmod (IntKind.wrap .u32 s91.1) 10000) 100)) * 2))) + 1)) : Int).toNat 0).toNat : Nat) : Int), [], []⟩) (ef' := ⟨.int .u8 (((k0_.getD ((IntKind.wrap .u32 (((IntKind.wrap .u32 (((Int.tmod (Int.tmod (IntKind.wrap .u32 s91.1) 10000) 100)) * 2))) + 1)) : Int).toNat 0).toNat : Nat) : Int), [], []⟩) (c := inR ((IntKind.wrap .u32 (((IntKind.wrap .u32 (((Int.tmod (Int.tmod (IntKind.wrap .u32 s91.1) 10000) 100)) * 2))) + 1))) k0_.length) (tr2 := [([], []), ([], []), ([], []), ([], []), ([], []), ([], []), ([], []), ([], []), ([], [])]) (H2 := [.box (s91.2.2.flatMap (encI .u8))]) (by kernel_rfl) hm (fun hc => rfl) (by kernel_rfl) ?_
    refine kD 1 ?_
    obtain ⟨hm, h210⟩ := asrt h209
    refine RJ.rel (d := (some 120)) (ef := ⟨.int .u8 (((k0_.getD ((IntKind.wrap .u32 (((Int.tmod (Int.tmod (IntKind.wrap .u32 s91.1) 10000) 100)) * 2)) : Int).toNat 0).toNat : Nat) : Int), [], []⟩) (ef' := ⟨.int .u8 (((k0_.getD ((IntKind.wrap .u32 (((Int.tmod (Int.tmod (IntKind.wrap .u32 s91.1) 10000) 100)) * 2)) : Int).toNat 0).toNat : Nat) : Int), [], []⟩) (c := inR ((IntKind.wrap .u32 (((Int.tmod (Int.tmod (IntKind.wrap .u32 s91.1) 10000) 100)) * 2))) k0_.length) (tr2 := [([], []), ([], []), ([], []), ([], []), ([], []), ([], []), ([], []), ([], []), ([], []), ([], []), ([], [])]) (H2 := [.box (s91.2.2.flatMap (encI .u8))]) (by kernel_rfl) hm (fun hc => rfl) (by kernel_rfl) ?_
    obtain ⟨hm, h211⟩ := asrt h210
    refine RJ.rel (d := (some 121)) (ef := ⟨.ptr 0 (0 + ((IntKind.wrap .i64 (s91.2.1 - 1)) : Int).toNat * 1), [], []⟩) (ef' := ⟨.ptr 0 (0 + ((IntKind.wrap .i64 (s91.2.1 - 1)) : Int).toNat * 1), [], []⟩) (c := inR (IntKind.wrap .i64 (s91.2.1 - 1)) x0.toNat) (tr2 := [([], []), ([], []), ([], []), ([], []), ([], []), ([], []), ([], []), ([], []), ([], []), ([], []), ([], []), ([], [])]) (H2 := [.box (s91.2.2.flatMap (encI .u8))]) (by kernel_rfl) hm (fun hc => rfl) (by kernel_rfl) ?_
    obtain ⟨hm, h212⟩ := asrt h211
    refine RJ.relS (d := none) (ef := ⟨.undef, [0], [(0, .box (splice (s91.2.2.flatMap (encI .u8)) (0 * 1 + ((IntKind.wrap .i64 (s91.2.1 - 1)) : Int).toNat * 1) ((encI .u8) ((((k0_.getD ((IntKind.wrap .u32 (((IntKind.wrap .u32 (((Int.tmod (Int.tmod (IntKind.wrap .u32 s91.1) 10000) 100)) * 2))) + 1)) : Int).toNat 0).toNat : Nat) : Int)))))]⟩) (ef' := ⟨.undef, [0], [(0, .box ((setAt s91.2.2 ((0 : Nat) + (IntKind.wrap .i64 (s91.2.1 - 1)) : Int) ((((k0_.getD ((IntKind.wrap .u32 (((IntKind.wrap .u32 (((Int.tmod (Int.tmod (IntKind.wrap .u32 s91.1) 10000) 100)) * 2))) + 1)) : Int).toNat 0).toNat : Nat) : Int))).flatMap (encI .u8)))]⟩) (c := Nat.ble (0 * 1 + ((IntKind.wrap .i64 (s91.2.1 - 1)) : Int).toNat * 1 + ((encI .u8) ((((k0_.getD ((IntKind.wrap .u32 (((IntKind.wrap .u32 (((Int.tmod (Int.tmod (IntKind.wrap .u32 s91.1) 10000) 100)) * 2))) + 1)) : Int).toNat 0).toNat : Nat) : Int))).length) (s91.2.2.flatMap (encI .u8)).length) (tr2 := [([], []), ([], []), ([], []), ([], []), ([], []), ([], []), ([], []), ([], []), ([], []), ([], []), ([], []), ([], []), ([0, 1], [0])]) (H2 := [.box (((setAt s91.2.2 ((0 : Nat) + (IntKind.wrap .i64 (s91.2.1 - 1)) : Int) ((((k0_.getD ((IntKind.wrap .u32 (((IntKind.wrap .u32 (((Int.tmod (Int.tmod (IntKind.wrap .u32 s91.1) 10000) 100)) * 2))) + 1)) : Int).toNat 0).toNat : Nat) : Int)))).flatMap (encI .u8))]) (by kernel_rfl) (storeB_ok (encI_len .u8) hm) (fun hc => N.storeB (o := 0) (encI_len .u8) hm) (by kernel_rfl) ?_
    obtain ⟨hm, h213⟩ := asrt h212
    refine RJ.rel (d := (some 122)) (ef := ⟨.ptr 0 (0 + ((IntKind.wrap .i64 (s91.2.1 - 2)) : Int).toNat * 1), [], []⟩) (ef' := ⟨.ptr 0 (0 + ((IntKind.wrap .i64 (s91.2.1 - 2)) : Int).toNat * 1), [], []⟩) (c := inR (IntKind.wrap .i64 (s91.2.1 - 2)) x0.toNat) (tr2 := [([], []), ([], []), ([], []), ([], []), ([], []), ([], []), ([], []), ([], []), ([], []), ([], []), ([], []), ([], []), ([0, 1], [0]), ([], [])]) (H2 := [.box (((setAt s91.2.2 ((0 : Nat) + (IntKind.wrap .i64 (s91.2.1 - 1)) : Int) ((((k0_.getD ((IntKind.wrap .u32 (((IntKind.wrap .u32 (((Int.tmod (Int.tmod (IntKind.wrap .u32 s91.1) 10000) 100)) * 2))) + 1)) : Int).toNat 0).toNat : Nat) : Int)))).flatMap (encI .u8))]) (by kernel_rfl) hm (fun hc => rfl) (by kernel_rfl) ?_
    obtain ⟨hm, h214⟩ := asrt h213
    refine RJ.relS (d := none) (ef := ⟨.undef, [0], [(0, .box (splice (((setAt s91.2.2 ((0 : Nat) + (IntKind.wrap .i64 (s91.2.1 - 1)) : Int) ((((k0_.getD ((IntKind.wrap .u32 (((IntKind.wrap .u32 (((Int.tmod (Int.tmod (IntKind.wrap .u32 s91.1) 10000) 100)) * 2))) + 1)) : Int).toNat 0).toNat : Nat) : Int)))).flatMap (encI .u8)) (0 * 1 + ((IntKind.wrap .i64 (s91.2.1 - 2)) : Int).toNat * 1) ((encI .u8) ((((k0_.getD ((IntKind.wrap .u32 (((Int.tmod (Int.tmod (IntKind.wrap .u32 s91.1) 10000) 100)) * 2)) : Int).toNat 0).toNat : Nat) : Int)))))]⟩) (ef' := ⟨.undef, [0], [(0, .box ((setAt ((setAt s91.2.2 ((0 : Nat) + (IntKind.wrap .i64 (s91.2.1 - 1)) : Int) ((((k0_.getD ((IntKind.wrap .u32 (((IntKind.wrap .u32 (((Int.tmod (Int.tmod (IntKind.wrap .u32 s91.1) 10000) 100)) * 2))) + 1)) : Int).toNat 0).toNat : Nat) : Int)))) ((0 : Nat) + (IntKind.wrap .i64 (s91.2.1 - 2)) : Int) ((((k0_.getD ((IntKind.wrap .u32 (((Int.tmod (Int.tmod (IntKind.wrap .u32 s91.1) 10000) 100)) * 2)) : Int).toNat 0).toNat : Nat) : Int))).flatMap (encI .u8)))]⟩) (c := Nat.ble (0 * 1 + ((IntKind.wrap .i64 (s91.2.1 - 2)) : Int).toNat * 1 + ((encI .u8) ((((k0_.getD ((IntKind.wrap .u32 (((Int.tmod (Int.tmod (IntKind.wrap .u32 s91.1) 10000) 100)) * 2)) : Int).toNat 0).toNat : Nat) : Int))).length) (((setAt s91.2.2 ((0 : Nat) + (IntKind.wrap .i64 (s91.2.1 - 1)) : Int) ((((k0_.getD ((IntKind.wrap .u32 (((IntKind.wrap .u32 (((Int.tmod (Int.tmod (IntKind.wrap .u32 s91.1) 10000) 100)) * 2))) + 1)) : Int).toNat 0).toNat : Nat) : Int)))).flatMap (encI .u8)).length) (tr2 := [([], []), ([], []), ([], []), ([], []), ([], []), ([], []), ([], []), ([], []), ([], []), ([], []), ([], []), ([], []), ([0, 1], [0]), ([], []), ([0, 1], [0])]) (H2 := [.box (((setAt ((setAt s91.2.2 ((0 : Nat) + (IntKind.wrap .i64 (s91.2.1 - 1)) : Int) ((((k0_.getD ((IntKind.wrap .u32 (((IntKind.wrap .u32 (((Int.tmod (Int.tmod (IntKind.wrap .u32 s91.1) 10000) 100)) * 2))) + 1)) : Int).toNat 0).toNat : Nat) : Int)))) ((0 : Nat) + (IntKind.wrap .i64 (s91.2.1 - 2)) : Int) ((((k0_.getD ((IntKind.wrap .u32 (((Int.tmod (Int.tmod (IntKind.wrap .u32 s91.1) 10000) 100)) * 2)) : Int).toNat 0).toNat : Nat) : Int)))).flatMap (encI .u8))]) (by kernel_rfl) (storeB_ok (encI_len .u8) hm) (fun hc => N.storeB (o := 0) (encI_len .u8) hm) (by kernel_rfl) ?_
    refine kEN ?_
    refine kS ?_
    refine J.keep [0, 4, 12, 14] (L2 := [(0, .sl 0 0 x0.toNat 1), (4, .int .i64 s91.2.1), (12, .int .u32 ((IntKind.wrap .u32 (Int.tdiv (IntKind.wrap .u32 s91.1) 10000)))), (14, .int .u32 ((IntKind.wrap .u32 (((IntKind.wrap .u32 (Int.tdiv (Int.tmod (IntKind.wrap .u32 s91.1) 10000) 100))) * 2))))]) (by kernel_rfl) ?_
    refine K.draw (by kernel_rfl) (by kernel_rfl) (by kernel_rfl) (H2 := [.box (((setAt ((setAt s91.2.2 ((0 : Nat) + (IntKind.wrap .i64 (s91.2.1 - 1)) : Int) ((((k0_.getD ((IntKind.wrap .u32 (((IntKind.wrap .u32 (((Int.tmod (Int.tmod (IntKind.wrap .u32 s91.1) 10000) 100)) * 2))) + 1)) : Int).toNat 0).toNat : Nat) : Int)))) ((0 : Nat) + (IntKind.wrap .i64 (s91.2.1 - 2)) : Int) ((((k0_.getD ((IntKind.wrap .u32 (((Int.tmod (Int.tmod (IntKind.wrap .u32 s91.1) 10000) 100)) * 2)) : Int).toNat 0).toNat : Nat) : Int)))).flatMap (encI .u8))]) (by kernel_rfl) (n := 1) (by kernel_rfl) ?_
    refine RJ.segD 8 (tr2 := [([], []), ([], []), ([], []), ([], []), ([], []), ([], []), ([], []), ([], [])]) (L2 := [(130, .int .u32 ((IntKind.wrap .u32 (((IntKind.wrap .u32 (((IntKind.wrap .u32 (Int.tdiv (Int.tmod (IntKind.wrap .u32 s91.1) 10000) 100))) * 2))) + 1)))), (129, .int .u32 ((IntKind.wrap .u32 (((IntKind.wrap .u32 (Int.tdiv (Int.tmod (IntKind.wrap .u32 s91.1) 10000) 100))) * 2)))), (128, .int .i64 (IntKind.wrap .i64 (s91.2.1 - 4))), (127, .int .i64 s91.2.1), (126, .sl 0 0 x0.toNat 1), (125, .int .i64 (IntKind.wrap .i64 (s91.2.1 - 3))), (124, .int .i64 s91.2.1), (123, .sl 0 0 x0.toNat 1), (0, .sl 0 0 x0.toNat 1), (4, .int .i64 s91.2.1), (12, .int .u32 ((IntKind.wrap .u32 (Int.tdiv (IntKind.wrap .u32 s91.1) 10000)))), (14, .int .u32 ((IntKind.wrap .u32 (((IntKind.wrap .u32 (Int.tdiv (Int.tmod (IntKind.wrap .u32 s91.1) 10000) 100))) * 2))))]) (H2 := [.box (((setAt ((setAt s91.2.2 ((0 : Nat) + (IntKind.wrap .i64 (s91.2.1 - 1)) : Int) ((((k0_.getD ((IntKind.wrap .u32 (((IntKind.wrap .u32 (((Int.tmod (Int.tmod (IntKind.wrap .u32 s91.1) 10000) 100)) * 2))) + 1)) : Int).toNat 0).toNat : Nat) : Int)))) ((0 : Nat) + (IntKind.wrap .i64 (s91.2.1 - 2)) : Int) ((((k0_.getD ((IntKind.wrap .u32 (((Int.tmod (Int.tmod (IntKind.wrap .u32 s91.1) 10000) 100)) * 2)) : Int).toNat 0).toNat : Nat) : Int)))).flatMap (encI .u8))]) (by kernel_rfl) ?_
    obtain ⟨hm, h215⟩ := asrt h214
    refine RJ.rel (d := (some 131)) (ef := ⟨.int .u8 (((k0_.getD ((IntKind.wrap .u32 (((IntKind.wrap .u32 (((IntKind.wrap .u32 (Int.tdiv (Int.tmod (IntKind.wrap .u32 s91.1) 10000) 100))) * 2))) + 1)) : Int).toNat 0).toNat : Nat) : Int), [], []⟩) (ef' := ⟨.int .u8 (((k0_.getD ((IntKind.wrap .u32 (((IntKind.wrap .u32 (((IntKind.wrap .u32 (Int.tdiv (Int.tmod (IntKind.wrap .u32 s91.1) 10000) 100))) * 2))) + 1)) : Int).toNat 0).toNat : Nat) : Int), [], []⟩) (c := inR ((IntKind.wrap .u32 (((IntKind.wrap .u32 (((IntKind.wrap .u32 (Int.tdiv (Int.tmod (IntKind.wrap .u32 s91.1) 10000) 100))) * 2))) + 1))) k0_.length) (tr2 := [([], []), ([], []), ([], []), ([], []), ([], []), ([], []), ([], []), ([], []), ([], [])]) (H2 := [.box (((setAt ((setAt s91.2.2 ((0 : Nat) + (IntKind.wrap .i64 (s91.2.1 - 1)) : Int) ((((k0_.getD ((IntKind.wrap .u32 (((IntKind.wrap .u32 (((Int.tmod (Int.tmod (IntKind.wrap .u32 s91.1) 10000) 100)) * 2))) + 1)) : Int).toNat 0).toNat : Nat) : Int)))) ((0 : Nat) + (IntKind.wrap .i64 (s91.2.1 - 2)) : Int) ((((k0_.getD ((IntKind.wrap .u32 (((Int.tmod (Int.tmod (IntKind.wrap .u32 s91.1) 10000) 100)) * 2)) : Int).toNat 0).toNat : Nat) : Int)))).flatMap (encI .u8))]) (by kernel_rfl) hm (fun hc => rfl) (by kernel_rfl) ?_
    refine kD 1 ?_
    obtain ⟨hm, h216⟩ := asrt h215
    refine RJ.rel (d := (some 133)) (ef := ⟨.int .u8 (((k0_.getD ((IntKind.wrap .u32 (((IntKind.wrap .u32 (Int.tdiv (Int.tmod (IntKind.wrap .u32 s91.1) 10000) 100))) * 2)) : Int).toNat 0).toNat : Nat) : Int), [], []⟩) (ef' := ⟨.int .u8 (((k0_.getD ((IntKind.wrap .u32 (((IntKind.wrap .u32 (Int.tdiv (Int.tmod (IntKind.wrap .u32 s91.1) 10000) 100))) * 2)) : Int).toNat 0).toNat : Nat) : Int), [], []⟩) (c := inR ((IntKind.wrap .u32 (((IntKind.wrap .u32 (Int.tdiv (Int.tmod (IntKind.wrap .u32 s91.1) 10000) 100))) * 2))) k0_.length) (tr2 := [([], []), ([], []), ([], []), ([], []), ([], []), ([], []), ([], []), ([], []), ([], []), ([], []), ([], [])]) (H2 := [.box (((setAt ((setAt s91.2.2 ((0 : Nat) + (IntKind.wrap .i64 (s91.2.1 - 1)) : Int) ((((k0_.getD ((IntKind.wrap .u32 (((IntKind.wrap .u32 (((Int.tmod (Int.tmod (IntKind.wrap .u32 s91.1) 10000) 100)) * 2))) + 1)) : Int).toNat 0).toNat : Nat) : Int)))) ((0 : Nat) + (IntKind.wrap .i64 (s91.2.1 - 2)) : Int) ((((k0_.getD ((IntKind.wrap .u32 (((Int.tmod (Int.tmod (IntKind.wrap .u32 s91.1) 10000) 100)) * 2)) : Int).toNat 0).toNat : Nat) : Int)))).flatMap (encI .u8))]) (by kernel_rfl) hm (fun hc => rfl) (by kernel_rfl) ?_
    obtain ⟨hm, h217⟩ := asrt h216
    refine RJ.rel (d := (some 134)) (ef := ⟨.ptr 0 (0 + ((IntKind.wrap .i64 (s91.2.1 - 3)) : Int).toNat * 1), [], []⟩) (ef' := ⟨.ptr 0 (0 + ((IntKind.wrap .i64 (s91.2.1 - 3)) : Int).toNat * 1), [], []⟩) (c := inR (IntKind.wrap .i64 (s91.2.1 - 3)) x0.toNat) (tr2 := [([], []), ([], []), ([], []), ([], []), ([], []), ([], []), ([], []), ([], []), ([], []), ([], []), ([], []), ([], [])]) (H2 := [.box (((setAt ((setAt s91.2.2 ((0 : Nat) + (IntKind.wrap .i64 (s91.2.1 - 1)) : Int) ((((k0_.getD ((IntKind.wrap .u32 (((IntKind.wrap .u32 (((Int.tmod (Int.tmod (IntKind.wrap .u32 s91.1) 10000) 100)) * 2))) + 1)) : Int).toNat 0).toNat : Nat) : Int)))) ((0 : Nat) + (IntKind.wrap .i64 (s91.2.1 - 2)) : Int) ((((k0_.getD ((IntKind.wrap .u32 (((Int.tmod (Int.tmod (IntKind.wrap .u32 s91.1) 10000) 100)) * 2)) : Int).toNat 0).toNat : Nat) : Int)))).flatMap (encI .u8))]) (by kernel_rfl) hm (fun hc => rfl) (by kernel_rfl) ?_
    obtain ⟨hm, h218⟩ := asrt h217
    refine RJ.relS (d := none) (ef := ⟨.undef, [0], [(0, .box (splice (((setAt ((setAt s91.2.2 ((0 : Nat) + (IntKind.wrap .i64 (s91.2.1 - 1)) : Int) ((((k0_.getD ((IntKind.wrap .u32 (((IntKind.wrap .u32 (((Int.tmod (Int.tmod (IntKind.wrap .u32 s91.1) 10000) 100)) * 2))) + 1)) : Int).toNat 0).toNat : Nat) : Int)))) ((0 : Nat) + (IntKind.wrap .i64 (s91.2.1 - 2)) : Int) ((((k0_.getD ((IntKind.wrap .u32 (((Int.tmod (Int.tmod (IntKind.wrap .u32 s91.1) 10000) 100)) * 2)) : Int).toNat 0).toNat : Nat) : Int)))).flatMap (encI .u8)) (0 * 1 + ((IntKind.wrap .i64 (s91.2.1 - 3)) : Int).toNat * 1) ((encI .u8) ((((k0_.getD ((IntKind.wrap .u32 (((IntKind.wrap .u32 (((IntKind.wrap .u32 (Int.tdiv (Int.tmod (IntKind.wrap .u32 s91.1) 10000) 100))) * 2))) + 1)) : Int).toNat 0).toNat : Nat) : Int)))))]⟩) (ef' := ⟨.undef, [0], [(0, .box ((setAt ((setAt ((setAt s91.2.2 ((0 : Nat) + (IntKind.wrap .i64 (s91.2.1 - 1)) : Int) ((((k0_.getD ((IntKind.wrap .u32 (((IntKind.wrap .u32 (((Int.tmod (Int.tmod (IntKind.wrap .u32 s91.1) 10000) 100)) * 2))) + 1)) : Int).toNat 0).toNat : Nat) : Int)))) ((0 : Nat) + (IntKind.wrap .i64 (s91.2.1 - 2)) : Int) ((((k0_.getD ((IntKind.wrap .u32 (((Int.tmod (Int.tmod (IntKind.wrap .u32 s91.1) 10000) 100)) * 2)) : Int).toNat 0).toNat : Nat) : Int)))) ((0 : Nat) + (IntKind.wrap .i64 (s91.2.1 - 3)) : Int) ((((k0_.getD ((IntKind.wrap .u32 (((IntKind.wrap .u32 (((IntKind.wrap .u32 (Int.tdiv (Int.tmod (IntKind.wrap .u32 s91.1) 10000) 100))) * 2))) + 1)) : Int).toNat 0).toNat : Nat) : Int))).flatMap (encI .u8)))]⟩) (c := Nat.ble (0 * 1 + ((IntKind.wrap .i64 (s91.2.1 - 3)) : Int).toNat * 1 + ((encI .u8) ((((k0_.getD ((IntKind.wrap .u32 (((IntKind.wrap .u32 (((IntKind.wrap .u32 (Int.tdiv (Int.tmod (IntKind.wrap .u32 s91.1) 10000) 100))) * 2))) + 1)) : Int).toNat 0).toNat : Nat) : Int))).length) (((setAt ((setAt s91.2.2 ((0 : Nat) + (IntKind.wrap .i64 (s91.2.1 - 1)) : Int) ((((k0_.getD ((IntKind.wrap .u32 (((IntKind.wrap .u32 (((Int.tmod (Int.tmod (IntKind.wrap .u32 s91.1) 10000) 100)) * 2))) + 1)) : Int).toNat 0).toNat : Nat) : Int)))) ((0 : Nat) + (IntKind.wrap .i64 (s91.2.1 - 2)) : Int) ((((k0_.getD ((IntKind.wrap .u32 (((Int.tmod (Int.tmod (IntKind.wrap .u32 s91.1) 10000) 100)) * 2)) : Int).toNat 0).toNat : Nat) : Int)))).flatMap (encI .u8)).length) (tr2 := [([], []), ([], []), ([], []), ([], []), ([], []), ([], []), ([], []), ([], []), ([], []), ([], []), ([], []), ([], []), ([0, 1], [0])]) (H2 := [.box (((setAt ((setAt ((setAt s91.2.2 ((0 : Nat) + (IntKind.wrap .i64 (s91.2.1 - 1)) : Int) ((((k0_.getD ((IntKind.wrap .u32 (((IntKind.wrap .u32 (((Int.tmod (Int.tmod (IntKind.wrap .u32 s91.1) 10000) 100)) * 2))) + 1)) : Int).toNat 0).toNat : Nat) : Int)))) ((0 : Nat) + (IntKind.wrap .i64 (s91.2.1 - 2)) : Int) ((((k0_.getD ((IntKind.wrap .u32 (((Int.tmod (Int.tmod (IntKind.wrap .u32 s91.1) 10000) 100)) * 2)) : Int).toNat 0).toNat : Nat) : Int)))) ((0 : Nat) + (IntKind.wrap .i64 (s91.2.1 - 3)) : Int) ((((k0_.getD ((IntKind.wrap .u32 (((IntKind.wrap .u32 (((IntKind.wrap .u32 (Int.tdiv (Int.tmod (IntKind.wrap .u32 s91.1) 10000) 100))) * 2))) + 1)) : Int).toNat 0).toNat : Nat) : Int)))).flatMap (encI .u8))]) (by kernel_rfl) (storeB_ok (encI_len .u8) hm) (fun hc => N.storeB (o := 0) (encI_len .u8) hm) (by kernel_rfl) ?_
    obtain ⟨hm, h219⟩ := asrt h218
    refine RJ.rel (d := (some 135)) (ef := ⟨.ptr 0 (0 + ((IntKind.wrap .i64 (s91.2.1 - 4)) : Int).toNat * 1), [], []⟩) (ef' := ⟨.ptr 0 (0 + ((IntKind.wrap .i64 (s91.2.1 - 4)) : Int).toNat * 1), [], []⟩) (c := inR (IntKind.wrap .i64 (s91.2.1 - 4)) x0.toNat) (tr2 := [([], []), ([], []), ([], []), ([], []), ([], []), ([], []), ([], []), ([], []), ([], []), ([], []), ([], []), ([], []), ([0, 1], [0]), ([], [])]) (H2 := [.box (((setAt ((setAt ((setAt s91.2.2 ((0 : Nat) + (IntKind.wrap .i64 (s91.2.1 - 1)) : Int) ((((k0_.getD ((IntKind.wrap .u32 (((IntKind.wrap .u32 (((Int.tmod (Int.tmod (IntKind.wrap .u32 s91.1) 10000) 100)) * 2))) + 1)) : Int).toNat 0).toNat : Nat) : Int)))) ((0 : Nat) + (IntKind.wrap .i64 (s91.2.1 - 2)) : Int) ((((k0_.getD ((IntKind.wrap .u32 (((Int.tmod (Int.tmod (IntKind.wrap .u32 s91.1) 10000) 100)) * 2)) : Int).toNat 0).toNat : Nat) : Int)))) ((0 : Nat) + (IntKind.wrap .i64 (s91.2.1 - 3)) : Int) ((((k0_.getD ((IntKind.wrap .u32 (((IntKind.wrap .u32 (((IntKind.wrap .u32 (Int.tdiv (Int.tmod (IntKind.wrap .u32 s91.1) 10000) 100))) * 2))) + 1)) : Int).toNat 0).toNat : Nat) : Int)))).flatMap (encI .u8))]) (by kernel_rfl) hm (fun hc => rfl) (by kernel_rfl) ?_
    obtain ⟨hm, h220⟩ := asrt h219
    refine RJ.relS (d := none) (ef := ⟨.undef, [0], [(0, .box (splice (((setAt ((setAt ((setAt s91.2.2 ((0 : Nat) + (IntKind.wrap .i64 (s91.2.1 - 1)) : Int) ((((k0_.getD ((IntKind.wrap .u32 (((IntKind.wrap .u32 (((Int.tmod (Int.tmod (IntKind.wrap .u32 s91.1) 10000) 100)) * 2))) + 1)) : Int).toNat 0).toNat : Nat) : Int)))) ((0 : Nat) + (IntKind.wrap .i64 (s91.2.1 - 2)) : Int) ((((k0_.getD ((IntKind.wrap .u32 (((Int.tmod (Int.tmod (IntKind.wrap .u32 s91.1) 10000) 100)) * 2)) : Int).toNat 0).toNat : Nat) : Int)))) ((0 : Nat) + (IntKind.wrap .i64 (s91.2.1 - 3)) : Int) ((((k0_.getD ((IntKind.wrap .u32 (((IntKind.wrap .u32 (((IntKind.wrap .u32 (Int.tdiv (Int.tmod (IntKind.wrap .u32 s91.1) 10000) 100))) * 2))) + 1)) : Int).toNat 0).toNat : Nat) : Int)))).flatMap (encI .u8)) (0 * 1 + ((IntKind.wrap .i64 (s91.2.1 - 4)) : Int).toNat * 1) ((encI .u8) ((((k0_.getD ((IntKind.wrap .u32 (((IntKind.wrap .u32 (Int.tdiv (Int.tmod (IntKind.wrap .u32 s91.1) 10000) 100))) * 2)) : Int).toNat 0).toNat : Nat) : Int)))))]⟩) (ef' := ⟨.undef, [0], [(0, .box ((setAt ((setAt ((setAt ((setAt s91.2.2 ((0 : Nat) + (IntKind.wrap .i64 (s91.2.1 - 1)) : Int) ((((k0_.getD ((IntKind.wrap .u32 (((IntKind.wrap .u32 (((Int.tmod (Int.tmod (IntKind.wrap .u32 s91.1) 10000) 100)) * 2))) + 1)) : Int).toNat 0).toNat : Nat) : Int)))) ((0 : Nat) + (IntKind.wrap .i64 (s91.2.1 - 2)) : Int) ((((k0_.getD ((IntKind.wrap .u32 (((Int.tmod (Int.tmod (IntKind.wrap .u32 s91.1) 10000) 100)) * 2)) : Int).toNat 0).toNat : Nat) : Int)))) ((0 : Nat) + (IntKind.wrap .i64 (s91.2.1 - 3)) : Int) ((((k0_.getD ((IntKind.wrap .u32 (((IntKind.wrap .u32 (((IntKind.wrap .u32 (Int.tdiv (Int.tmod (IntKind.wrap .u32 s91.1) 10000) 100))) * 2))) + 1)) : Int).toNat 0).toNat : Nat) : Int)))) ((0 : Nat) + (IntKind.wrap .i64 (s91.2.1 - 4)) : Int) ((((k0_.getD ((IntKind.wrap .u32 (((IntKind.wrap .u32 (Int.tdiv (Int.tmod (IntKind.wrap .u32 s91.1) 10000) 100))) * 2)) : Int).toNat 0).toNat : Nat) : Int))).flatMap (encI .u8)))]⟩) (c := Nat.ble (0 * 1 + ((IntKind.wrap .i64 (s91.2.1 - 4)) : Int).toNat * 1 + ((encI .u8) ((((k0_.getD ((IntKind.wrap .u32 (((IntKind.wrap .u32 (Int.tdiv (Int.tmod (IntKind.wrap .u32 s91.1) 10000) 100))) * 2)) : Int).toNat 0).toNat : Nat) : Int))).length) (((setAt ((setAt ((setAt s91.2.2 ((0 : Nat) + (IntKind.wrap .i64 (s91.2.1 - 1)) : Int) ((((k0_.getD ((IntKind.wrap .u32 (((IntKind.wrap .u32 (((Int.tmod (Int.tmod (IntKind.wrap .u32 s91.1) 10000) 100)) * 2))) + 1)) : Int).toNat 0).toNat : Nat) : Int)))) ((0 : Nat) + (IntKind.wrap .i64 (s91.2.1 - 2)) : Int) ((((k0_.getD ((IntKind.wrap .u32 (((Int.tmod (Int.tmod (IntKind.wrap .u32 s91.1) 10000) 100)) * 2)) : Int).toNat 0).toNat : Nat) : Int)))) ((0 : Nat) + (IntKind.wrap .i64 (s91.2.1 - 3)) : Int) ((((k0_.getD ((IntKind.wrap .u32 (((IntKind.wrap .u32 (((IntKind.wrap .u32 (Int.tdiv (Int.tmod (IntKind.wrap .u32 s91.1) 10000) 100))) * 2))) + 1)) : Int).toNat 0).toNat : Nat) : Int)))).flatMap (encI .u8)).length) (tr2 := [([], []), ([], []), ([], []), ([], []), ([], []), ([], []), ([], []), ([], []), ([], []), ([], []), ([], []), ([], []), ([0, 1], [0]), ([], []), ([0, 1], [0])]) (H2 := [.box (((setAt ((setAt ((setAt ((setAt s91.2.2 ((0 : Nat) + (IntKind.wrap .i64 (s91.2.1 - 1)) : Int) ((((k0_.getD ((IntKind.wrap .u32 (((IntKind.wrap .u32 (((Int.tmod (Int.tmod (IntKind.wrap .u32 s91.1) 10000) 100)) * 2))) + 1)) : Int).toNat 0).toNat : Nat) : Int)))) ((0 : Nat) + (IntKind.wrap .i64 (s91.2.1 - 2)) : Int) ((((k0_.getD ((IntKind.wrap .u32 (((Int.tmod (Int.tmod (IntKind.wrap .u32 s91.1) 10000) 100)) * 2)) : Int).toNat 0).toNat : Nat) : Int)))) ((0 : Nat) + (IntKind.wrap .i64 (s91.2.1 - 3)) : Int) ((((k0_.getD ((IntKind.wrap .u32 (((IntKind.wrap .u32 (((IntKind.wrap .u32 (Int.tdiv (Int.tmod (IntKind.wrap .u32 s91.1) 10000) 100))) * 2))) + 1)) : Int).toNat 0).toNat : Nat) : Int)))) ((0 : Nat) + (IntKind.wrap .i64 (s91.2.1 - 4)) : Int) ((((k0_.getD ((IntKind.wrap .u32 (((IntKind.wrap .u32 (Int.tdiv (Int.tmod (IntKind.wrap .u32 s91.1) 10000) 100))) * 2)) : Int).toNat 0).toNat : Nat) : Int)))).flatMap (encI .u8))]) (by kernel_rfl) (storeB_ok (encI_len .u8) hm) (fun hc => N.storeB (o := 0) (encI_len .u8) hm) (by kernel_rfl) ?_
    refine kEN ?_
    refine kR ?_
    refine kC 3 [0,4,12] ?_
    refine kE ?_
    obtain rfl := oi h220
    exact kN [0, 4, 12]
   ·have h208 := condF hb206 hy203
    refine kF ?_
    refine kK ?_
    obtain rfl := oi h208
    exact kN [0, 4, 12]
  ·obtain ⟨s230, hy232, h234⟩ := bindS h205
   refine K.cutN (by kernel_rfl) (fun (s230 : Int × Int × (List Int)) => ([(0, .sl 0 0 x0.toNat 1), (4, .int .i64 s230.1), (12, .int .u32 s230.2.1)], [.box (s230.2.2.flatMap (encI .u8))])) s230 ?_ ?_
   ·refine kSR ?_
    refine kC 2 [0,4,12,139] ?_
    refine kEN ?_
    refine J.caseB 139 (b := (decide (s201.1 ≥ 2))) (by kernel_rfl) (fun hb235 => ?_) (fun hb235 => ?_)
    ·have h236 := condT hb235 hy232
     refine kT ?_
     refine kSR ?_
     refine kC 4 [0,4,12,16] ?_
     refine kEN ?_
     refine kSR ?_
     refine kC 3 [0,4,12,16] ?_
     refine kEN ?_
     refine kS ?_
     refine J.keep [0, 4, 12, 16] (L2 := [(0, .sl 0 0 x0.toNat 1), (4, .int .i64 s201.1), (12, .int .u32 (IntKind.wrap .u32 (Int.tdiv s201.2.1 100))), (16, .int .u32 ((IntKind.wrap .u32 ((Int.tmod s201.2.1 100) * 2))))]) (by kernel_rfl) ?_
     refine K.draw (by kernel_rfl) (by kernel_rfl) (by kernel_rfl) (H2 := [.box (s201.2.2.flatMap (encI .u8))]) (by kernel_rfl) (n := 1) (by kernel_rfl) ?_
     refine RJ.segD 8 (tr2 := [([], []), ([], []), ([], []), ([], []), ([], []), ([], []), ([], []), ([], [])]) (L2 := [(152, .int .u32 ((IntKind.wrap .u32 (((IntKind.wrap .u32 ((Int.tmod s201.2.1 100) * 2))) + 1)))), (151, .int .u32 ((IntKind.wrap .u32 ((Int.tmod s201.2.1 100) * 2)))), (150, .int .i64 (IntKind.wrap .i64 (s201.1 - 2))), (149, .int .i64 s201.1), (148, .sl 0 0 x0.toNat 1), (147, .int .i64 (IntKind.wrap .i64 (s201.1 - 1))), (146, .int .i64 s201.1), (145, .sl 0 0 x0.toNat 1), (0, .sl 0 0 x0.toNat 1), (4, .int .i64 s201.1), (12, .int .u32 (IntKind.wrap .u32 (Int.tdiv s201.2.1 100))), (16, .int .u32 ((IntKind.wrap .u32 ((Int.tmod s201.2.1 100) * 2))))]) (H2 := [.box (s201.2.2.flatMap (encI .u8))]) (by kernel_rfl) ?_
     obtain ⟨hm, h238⟩ := asrt h236
     refine RJ.rel (d := (some 153)) (ef := ⟨.int .u8 (((k0_.getD ((IntKind.wrap .u32 (((IntKind.wrap .u32 ((Int.tmod s201.2.1 100) * 2))) + 1)) : Int).toNat 0).toNat : Nat) : Int), [], []⟩) (ef' := ⟨.int .u8 (((k0_.getD ((IntKind.wrap .u32 (((IntKind.wrap .u32 ((Int.tmod s201.2.1 100) * 2))) + 1)) : Int).toNat 0).toNat : Nat) : Int), [], []⟩) (c := inR ((IntKind.wrap .u32 (((IntKind.wrap .u32 ((Int.tmod s201.2.1 100) * 2))) + 1))) k0_.length) (tr2 := [([], []), ([], []), ([], []), ([], []), ([], []), ([], []), ([], []), ([], []), ([], [])]) (H2 := [.box (s201.2.2.flatMap (encI .u8))]) (by kernel_rfl) hm (fun hc => rfl) (by kernel_rfl) ?_
     refine kD 1 ?_
     obtain ⟨hm, h239⟩ := asrt h238
     refine RJ.rel (d := (some 155)) (ef := ⟨.int .u8 (((k0_.getD ((IntKind.wrap .u32 ((Int.tmod s201.2.1 100) * 2)) : Int).toNat 0).toNat : Nat) : Int), [], []⟩) (ef' := ⟨.int .u8 (((k0_.getD ((IntKind.wrap .u32 ((Int.tmod s201.2.1 100) * 2)) : Int).toNat 0).toNat : Nat) : Int), [], []⟩) (c := inR ((IntKind.wrap .u32 ((Int.tmod s201.2.1 100) * 2))) k0_.length) (tr2 := [([], []), ([], []), ([], []), ([], []), ([], []), ([], []), ([], []), ([], []), ([], []), ([], []), ([], [])]) (H2 := [.box (s201.2.2.flatMap (encI .u8))]) (by kernel_rfl) hm (fun hc => rfl) (by kernel_rfl) ?_
     obtain ⟨hm, h240⟩ := asrt h239
     refine RJ.rel (d := (some 156)) (ef := ⟨.ptr 0 (0 + ((IntKind.wrap .i64 (s201.1 - 1)) : Int).toNat * 1), [], []⟩) (ef' := ⟨.ptr 0 (0 + ((IntKind.wrap .i64 (s201.1 - 1)) : Int).toNat * 1), [], []⟩) (c := inR (IntKind.wrap .i64 (s201.1 - 1)) x0.toNat) (tr2 := [([], []), ([], []), ([], []), ([], []), ([], []), ([], []), ([], []), ([], []), ([], []), ([], []), ([], []), ([], [])]) (H2 := [.box (s201.2.2.flatMap (encI .u8))]) (by kernel_rfl) hm (fun hc => rfl) (by kernel_rfl) ?_
     obtain ⟨hm, h241⟩ := asrt h240
     refine RJ.relS (d := none) (ef := ⟨.undef, [0], [(0, .box (splice (s201.2.2.flatMap (encI .u8)) (0 * 1 + ((IntKind.wrap .i64 (s201.1 - 1)) : Int).toNat * 1) ((encI .u8) ((((k0_.getD ((IntKind.wrap .u32 (((IntKind.wrap .u32 ((Int.tmod s201.2.1 100) * 2))) + 1)) : Int).toNat 0).toNat : Nat) : Int)))))]⟩) (ef' := ⟨.undef, [0], [(0, .box ((setAt s201.2.2 ((0 : Nat) + (IntKind.wrap .i64 (s201.1 - 1)) : Int) ((((k0_.getD ((IntKind.wrap .u32 (((IntKind.wrap .u32 ((Int.tmod s201.2.1 100) * 2))) + 1)) : Int).toNat 0).toNat : Nat) : Int))).flatMap (encI .u8)))]⟩) (c := Nat.ble (0 * 1 + ((IntKind.wrap .i64 (s201.1 - 1)) : Int).toNat * 1 + ((encI .u8) ((((k0_.getD ((IntKind.wrap .u32 (((IntKind.wrap .u32 ((Int.tmod s201.2.1 100) * 2))) + 1)) : Int).toNat 0).toNat : Nat) : Int))).length) (s201.2.2.flatMap (encI .u8)).length) (tr2 := [([], []), ([], []), ([], []), ([], []), ([], []), ([], []), ([], []), ([], []), ([], []), ([], []), ([], []), ([], []), ([0, 1], [0])]) (H2 := [.box (((setAt s201.2.2 ((0 : Nat) + (IntKind.wrap .i64 (s201.1 - 1)) : Int) ((((k0_.getD ((IntKind.wrap .u32 (((IntKind.wrap .u32 ((Int.tmod s201.2.1 100) * 2))) + 1)) : Int).toNat 0).toNat : Nat) : Int)))).flatMap (encI .u8))]) (by kernel_rfl) (storeB_ok (encI_len .u8) hm) (fun hc => N.storeB (o := 0) (encI_len .u8) hm) (by kernel_rfl) ?_
     obtain ⟨hm, h242⟩ := asrt h241
     refine RJ.rel (d := (some 157)) (ef := ⟨.ptr 0 (0 + ((IntKind.wrap .i64 (s201.1 - 2)) : Int).toNat * 1), [], []⟩) (ef' := ⟨.ptr 0 (0 + ((IntKind.wrap .i64 (s201.1 - 2)) : Int).toNat * 1), [], []⟩) (c := inR (IntKind.wrap .i64 (s201.1 - 2)) x0.toNat) (tr2 := [([], []), ([], []), ([], []), ([], []), ([], []), ([], []), ([], []), ([], []), ([], []), ([], []), ([], []), ([], []), ([0, 1], [0]), ([], [])]) (H2 := [.box (((setAt s201.2.2 ((0 : Nat) + (IntKind.wrap .i64 (s201.1 - 1)) : Int) ((((k0_.getD ((IntKind.wrap .u32 (((IntKind.wrap .u32 ((Int.tmod s201.2.1 100) * 2))) + 1)) : Int).toNat 0).toNat : Nat) : Int)))).flatMap (encI .u8))]) (by kernel_rfl) hm (fun hc => rfl) (by kernel_rfl) ?_
     obtain ⟨hm, h243⟩ := asrt h242
     refine RJ.relS (d := none) (ef := ⟨.undef, [0], [(0, .box (splice (((setAt s201.2.2 ((0 : Nat) + (IntKind.wrap .i64 (s201.1 - 1)) : Int) ((((k0_.getD ((IntKind.wrap .u32 (((IntKind.wrap .u32 ((Int.tmod s201.2.1 100) * 2))) + 1)) : Int).toNat 0).toNat : Nat) : Int)))).flatMap (encI .u8)) (0 * 1 + ((IntKind.wrap .i64 (s201.1 - 2)) : Int).toNat * 1) ((encI .u8) ((((k0_.getD ((IntKind.wrap .u32 ((Int.tmod s201.2.1 100) * 2)) : Int).toNat 0).toNat : Nat) : Int)))))]⟩) (ef' := ⟨.undef, [0], [(0, .box ((setAt ((setAt s201.2.2 ((0 : Nat) + (IntKind.wrap .i64 (s201.1 - 1)) : Int) ((((k0_.getD ((IntKind.wrap .u32 (((IntKind.wrap .u32 ((Int.tmod s201.2.1 100) * 2))) + 1)) : Int).toNat 0).toNat : Nat) : Int)))) ((0 : Nat) + (IntKind.wrap .i64 (s201.1 - 2)) : Int) ((((k0_.getD ((IntKind.wrap .u32 ((Int.tmod s201.2.1 100) * 2)) : Int).toNat 0).toNat : Nat) : Int))).flatMap (encI .u8)))]⟩) (c := Nat.ble (0 * 1 + ((IntKind.wrap .i64 (s201.1 - 2)) : Int).toNat * 1 + ((encI .u8) ((((k0_.getD ((IntKind.wrap .u32 ((Int.tmod s201.2.1 100) * 2)) : Int).toNat 0).toNat : Nat) : Int))).length) (((setAt s201.2.2 ((0 : Nat) + (IntKind.wrap .i64 (s201.1 - 1)) : Int) ((((k0_.getD ((IntKind.wrap .u32 (((IntKind.wrap .u32 ((Int.tmod s201.2.1 100) * 2))) + 1)) : Int).toNat 0).toNat : Nat) : Int)))).flatMap (encI .u8)).length) (tr2 := [([], []), ([], []), ([], []), ([], []), ([], []), ([], []), ([], []), ([], []), ([], []), ([], []), ([], []), ([], []), ([0, 1], [0]), ([], []), ([0, 1], [0])]) (H2 := [.box (((setAt ((setAt s201.2.2 ((0 : Nat) + (IntKind.wrap .i64 (s201.1 - 1)) : Int) ((((k0_.getD ((IntKind.wrap .u32 (((IntKind.wrap .u32 ((Int.tmod s201.2.1 100) * 2))) + 1)) : Int).toNat 0).toNat : Nat) : Int)))) ((0 : Nat) + (IntKind.wrap .i64 (s201.1 - 2)) : Int) ((((k0_.getD ((IntKind.wrap .u32 ((Int.tmod s201.2.1 100) * 2)) : Int).toNat 0).toNat : Nat) : Int)))).flatMap (encI .u8))]) (by kernel_rfl) (storeB_ok (encI_len .u8) hm) (fun hc => N.storeB (o := 0) (encI_len .u8) hm) (by kernel_rfl) ?_
     refine kEN ?_
     refine kR ?_
     refine kC 3 [0,4,12] ?_
     refine kE ?_
     obtain rfl := oi h243
     exact kN [0, 4, 12]
    ·have h237 := condF hb235 hy232
     refine kF ?_
     refine kK ?_
     obtain rfl := oi h237
     exact kN [0, 4, 12]
   ·refine kSR ?_
    refine kC 2 [0,12,161] ?_
    refine kEN ?_
    refine J.caseB 161 (b := (decide (s230.1 > 0))) (by kernel_rfl) (fun hb244 => ?_) (fun hb244 => ?_)
    ·have h245 := condT hb244 h234
     refine kT ?_
     refine kR ?_
     refine kC 4 [162,165] ?_
     obtain ⟨hm, h247⟩ := asrt h245
     refine RJ.rel (d := (some 166)) (ef := ⟨.ptr 0 (0 + (0 : Int).toNat * 1), [], []⟩) (ef' := ⟨.ptr 0 (0 + (0 : Int).toNat * 1), [], []⟩) (c := inR 0 x0.toNat) (tr2 := []) (H2 := [.box (s230.2.2.flatMap (encI .u8))]) (by kernel_rfl) hm (fun hc => rfl) (by kernel_rfl) ?_
     obtain ⟨hm, h248⟩ := asrt h247
     refine RJ.relS (d := none) (ef := ⟨.undef, [0], [(0, .box (splice (s230.2.2.flatMap (encI .u8)) (0 * 1 + (0 : Int).toNat * 1) ((encI .u8) ((IntKind.wrap .u8 (IntKind.wrap .u32 (48 + s230.2.1)))))))]⟩) (ef' := ⟨.undef, [0], [(0, .box ((setAt s230.2.2 ((0 : Nat) + 0 : Int) ((IntKind.wrap .u8 (IntKind.wrap .u32 (48 + s230.2.1))))).flatMap (encI .u8)))]⟩) (c := Nat.ble (0 * 1 + (0 : Int).toNat * 1 + ((encI .u8) ((IntKind.wrap .u8 (IntKind.wrap .u32 (48 + s230.2.1))))).length) (s230.2.2.flatMap (encI .u8)).length) (tr2 := []) (H2 := [.box (((setAt s230.2.2 ((0 : Nat) + 0 : Int) ((IntKind.wrap .u8 (IntKind.wrap .u32 (48 + s230.2.1)))))).flatMap (encI .u8))]) (by kernel_rfl) (storeB_ok (encI_len .u8) hm) (fun hc => N.storeB (o := 0) (encI_len .u8) hm) (by kernel_rfl) ?_
     refine kE ?_
     obtain rfl := oi h248
     exact K.retV (H0 := [.box (x2.flatMap (encI .u8))]) [0] (.inl rfl) hFn hFH hFD (by kernel_rfl) (v1 := .tup []) (by kernel_rfl) (by kernel_rfl) (by simp only [List.map_cons, List.map_nil, rn_lbox (enc := (encI .u8)) (fun _ _ => rfl)]; kernel_rfl) (by decide) (by simp only [List.all_cons, List.all_nil, refs_lbox (enc := (encI .u8)) (fun _ _ => rfl)]; kernel_rfl) (by kernel_rfl) (by kernel_rfl) (by kernel_rfl) (by kernel_rfl)
    ·have h246 := condF hb244 h234
     refine kF ?_
     refine kK ?_
     obtain rfl := oi h246
     exact K.retV (H0 := [.box (x2.flatMap (encI .u8))]) [0] (.inl rfl) hFn hFH hFD (by kernel_rfl) (v1 := .tup []) (by kernel_rfl) (by kernel_rfl) (by simp only [List.map_cons, List.map_nil, rn_lbox (enc := (encI .u8)) (fun _ _ => rfl)]; kernel_rfl) (by decide) (by simp only [List.all_cons, List.all_nil, refs_lbox (enc := (encI .u8)) (fun _ _ => rfl)]; kernel_rfl) (by kernel_rfl) (by kernel_rfl) (by kernel_rfl) (by kernel_rfl)
end Go.Proofs.YteaokhdkocddcaaDoor
