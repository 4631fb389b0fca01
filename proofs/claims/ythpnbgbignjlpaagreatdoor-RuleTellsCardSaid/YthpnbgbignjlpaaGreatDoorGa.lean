/-
  What the functions of this program come to, as functions of natives, each with the proof that it does. No conditions.
-/
import Derived.Test.YthpnbgbignjlpaaGreatDoorProg
import Derived.Test.YthpnbgbignjlpaaGreatDoorSySL
import Derived.Test.YthpnbgbignjlpaaGreatDoorSySC
import Derived.Shelf.Strings.Search1
import Derived.Shelf.Lays
import Derived.Lib.ItoaLen
namespace Go.Proofs.YthpnbgbignjlpaaGreatDoor
open Go Go.Sy Go.RowKit
set_option linter.unusedVariables false
set_option linter.unusedSimpArgs false
set_option maxRecDepth 100000
set_option maxHeartbeats 4000000
def gtabs : Nat → Option (List SV)
 | 0 => some [.int .u64 1, .int .u64 10, .int .u64 100, .int .u64 1000, .int .u64 10000, .int .u64 100000, .int .u64 1000000, .int .u64 10000000, .int .u64 100000000, .int .u64 1000000000, .int .u64 10000000000, .int .u64 100000000000, .int .u64 1000000000000, .int .u64 10000000000000, .int .u64 100000000000000, .int .u64 1000000000000000, .int .u64 10000000000000000, .int .u64 100000000000000000, .int .u64 1000000000000000000, .int .u64 10000000000000000000]
 | 2 => some [.int .u8 0, .int .u8 1, .int .u8 28, .int .u8 2, .int .u8 29, .int .u8 14, .int .u8 24, .int .u8 3, .int .u8 30, .int .u8 22, .int .u8 20, .int .u8 15, .int .u8 25, .int .u8 17, .int .u8 4, .int .u8 8, .int .u8 31, .int .u8 27, .int .u8 13, .int .u8 23, .int .u8 21, .int .u8 19, .int .u8 16, .int .u8 7, .int .u8 26, .int .u8 12, .int .u8 18, .int .u8 6, .int .u8 11, .int .u8 5, .int .u8 10, .int .u8 9]
 | 3 => some [.int .u8 0, .int .u8 1, .int .u8 56, .int .u8 2, .int .u8 57, .int .u8 49, .int .u8 28, .int .u8 3, .int .u8 61, .int .u8 58, .int .u8 42, .int .u8 50, .int .u8 38, .int .u8 29, .int .u8 17, .int .u8 4, .int .u8 62, .int .u8 47, .int .u8 59, .int .u8 36, .int .u8 45, .int .u8 43, .int .u8 51, .int .u8 22, .int .u8 53, .int .u8 39, .int .u8 33, .int .u8 30, .int .u8 24, .int .u8 18, .int .u8 12, .int .u8 5, .int .u8 63, .int .u8 55, .int .u8 48, .int .u8 27, .int .u8 60, .int .u8 41, .int .u8 37, .int .u8 16, .int .u8 46, .int .u8 35, .int .u8 44, .int .u8 21, .int .u8 52, .int .u8 32, .int .u8 23, .int .u8 11, .int .u8 54, .int .u8 26, .int .u8 40, .int .u8 15, .int .u8 34, .int .u8 20, .int .u8 31, .int .u8 10, .int .u8 25, .int .u8 14, .int .u8 19, .int .u8 9, .int .u8 13, .int .u8 8, .int .u8 7, .int .u8 6]
 | _ => none
instance : Inhabited GT := ⟨⟨gtabs⟩⟩
structure St41 where
 a0_ : Int
 a1_ : Int
 deriving Inhabited, DecidableEq
def encSt41 (x : St41) : List SV := [.int .i64 x.a0_, .int .i64 x.a1_]
theorem encSt41_len (x : St41) : (encSt41 x).length = 2 := rfl
structure St39 where
 Op_ : Int
 Mod_ : Int
 Not_ : Bool
 R_ : List St41
 deriving Inhabited, DecidableEq
def encSt39 (x : St39) : List SV := [.int .u8 x.Op_, .int .i64 x.Mod_, .bool x.Not_, lsv encSt41 2 x.R_]
theorem encSt39_len (x : St39) : (encSt39 x).length = 4 := rfl
structure St25 where
 I_ : List Int
 F_ : List Int
 W_ : Int
 C_ : Int
 deriving Inhabited, DecidableEq
def encSt25 (x : St25) : List SV := [lsv (encI .u8) 1 x.I_, lsv (encI .u8) 1 x.F_, .int .i64 x.W_, .int .i64 x.C_]
theorem encSt25_len (x : St25) : (encSt25 x).length = 4 := rfl
def rule_reader__word_1 (x0 : Int) : Option (Bool) :=
 (Option.bind (bif (decide (97 ≤ x0)) then (bif (decide (x0 ≤ 122)) then (some true) else (bif (decide (65 ≤ x0)) then (some (decide (x0 ≤ 90))) else (some false))) else (bif (decide (65 ≤ x0)) then (some (decide (x0 ≤ 90))) else (some false))) fun (s13 : Bool) => (some s13))
theorem rule_reader__word_1_ok {x0 : Int} {r : Bool} (h : rule_reader__word_1 x0 = some r) : SC Tryz.prog 63 [.int .u8 x0] [] (.bool r) [] := by
 refine kFn (fn := Tryz.f63) (fun F hFn hFH hFD => ?_)
 unfold rule_reader__word_1 at h
 refine kSR ?_
 refine kC 1 [0,2] ?_
 refine kEN ?_
 obtain ⟨s13, hy15, h17⟩ := bindS h
 refine K.cutN (by kernel_rfl) (fun (s13 : Bool) => ([(2, .bool s13)], [])) s13 ?_ ?_
 ·refine kR ?_
  refine kC 3 [0,2,5] ?_
  refine RJ.caseB 5 (b := (decide (97 ≤ x0))) (by kernel_rfl) (fun hb18 => ?_) (fun hb18 => ?_)
  ·have h19 := condT hb18 hy15
   refine kC 4 [0,2,9] ?_
   refine RJ.caseB 9 (b := (decide (x0 ≤ 122))) (by kernel_rfl) (fun hb21 => ?_) (fun hb21 => ?_)
   ·have h22 := condT hb21 h19
    refine RJ.seg 8 [2] (L2 := [(2, .bool true)]) (H2 := []) (by kernel_rfl) ?_
    refine kE ?_
    obtain rfl := oi h22
    exact kN [2]
   ·have h23 := condF hb21 h19
    refine RJ.seg 3 [0, 2, 9, 12] (L2 := [(0, .int .u8 x0), (2, .bool false), (9, .bool false), (12, .bool (decide (65 ≤ x0)))]) (H2 := []) (by kernel_rfl) ?_
    refine RJ.caseB 12 (b := (decide (65 ≤ x0))) (by kernel_rfl) (fun hb24 => ?_) (fun hb24 => ?_)
    ·have h25 := condT hb24 h23
     refine kC 5 [2] ?_
     refine kE ?_
     obtain rfl := oi h25
     exact kN [2]
    ·have h26 := condF hb24 h23
     refine kC 5 [2] ?_
     refine kE ?_
     obtain rfl := oi h26
     exact kN [2]
  ·have h20 := condF hb18 hy15
   refine kC 7 [0,2,9,12] ?_
   refine RJ.caseB 12 (b := (decide (65 ≤ x0))) (by kernel_rfl) (fun hb27 => ?_) (fun hb27 => ?_)
   ·have h28 := condT hb27 h20
    refine RJ.seg 5 [2] (L2 := [(2, .bool (decide (x0 ≤ 90)))]) (H2 := []) (by kernel_rfl) ?_
    refine kE ?_
    obtain rfl := oi h28
    exact kN [2]
   ·have h29 := condF hb27 h20
    refine RJ.seg 5 [2] (L2 := [(2, .bool false)]) (H2 := []) (by kernel_rfl) ?_
    refine kE ?_
    obtain rfl := oi h29
    exact kN [2]
 ·refine kX ?_
  obtain rfl := oi h17
  exact kZ hFn hFH hFD
def rule_reader__run_s0 (x0 : List UInt8) (x1 : Int) : Option ((List UInt8) × Int) :=
 (Option.bind (loopN (fun (s138 : Int) => (Option.bind (Option.bind (bif (decide (s138 < (x0.length : Int))) then (bif inR s138 x0.length then (some ((decide (((((x0.getD (s138 : Int).toNat 0).toNat : Nat) : Int)) = 32)))) else none) else (some false)) fun (s255 : Bool) => (bif s255 then (some (.inl ())) else (some (.inr (.inr s138))))) (joinX fun (s246 : Unit) => (some (.inl (IntKind.wrap .i64 (s138 + 1))))))) big x1) fun (s133 : Int) => (Option.bind (loopN (fun (s443 : Int) => (Option.bind (Option.bind (bif (decide (s443 < (x0.length : Int))) then (bif inR s443 x0.length then (Option.bind (rule_reader__word_1 ((((x0.getD (s443 : Int).toNat 0).toNat : Nat) : Int))) fun y602 => (some y602)) else none) else (some false)) fun (s593 : Bool) => (bif s593 then (some (.inl ())) else (some (.inr (.inr s443))))) (joinX fun (s581 : Unit) => (some (.inl (IntKind.wrap .i64 (s443 + 1))))))) big s133) fun (s438 : Int) => (bif inS s133 s438 x0.length then (some ((cut x0 s133 s438), s133)) else none)))
theorem rule_reader__run_s0_ok {x0 : List UInt8} {x1 : Int} {r : (List UInt8) × Int} (h : rule_reader__run_s0 x0 x1 = some r) : SC Tryz.prog 62 [.ptr 0 0, .fn (.func 63) [] []] [.box [.str x0, .int .i64 x1]] (.str r.1) [.box [.str x0, .int .i64 r.2]] := by
 refine kFn (fn := Tryz.f62) (fun F hFn hFH hFD => ?_)
 unfold rule_reader__run_s0 at h
 refine kSR ?_
 refine kC 1 [0,1,4] ?_
 refine kEN ?_
 obtain ⟨s133, hy135, h137⟩ := bindS h
 refine K.cutN (by kernel_rfl) (fun (s133 : Int) => ([(0, .ptr 0 0), (1, .fn (.func 63) [] []), (4, .str ([] : List UInt8))], [.box [.str x0, .int .i64 s133]])) s133 ?_ ?_
 ·refine K.block 0 (by kernel_rfl) ?_
  refine K.loop (by kernel_rfl) (fun (s138 : Int) => ([(0, .ptr 0 0), (1, .fn (.func 63) [] []), (4, .str ([] : List UInt8))], [.box [.str x0, .int .i64 s138]])) hy135 [0, 1, 4] (by kernel_rfl) (by kernel_rfl) (fun s138 x226 hs225 => ?_)
  obtain ⟨y247, hy248, h249⟩ := bindS hs225
  refine K.cutX (by kernel_rfl) (fun (s246 : Unit) => ([(0, .ptr 0 0), (1, .fn (.func 63) [] []), (4, .str ([] : List UInt8))], [.box [.str x0, .int .i64 s138]])) y247 ?_ (fun s246 hs => ?_)
  ·obtain ⟨s255, hy257, h259⟩ := bindS hy248
   refine K.cutN (by kernel_rfl) (fun (s255 : Bool) => ([(0, .ptr 0 0), (1, .fn (.func 63) [] []), (4, .str ([] : List UInt8)), (27, .bool s255)], [.box [.str x0, .int .i64 s138]])) s255 ?_ ?_
   ·refine J.keep [0, 1, 4] (L2 := [(0, .ptr 0 0), (1, .fn (.func 63) [] []), (4, .str ([] : List UInt8))]) (by kernel_rfl) ?_
    refine K.draw (by kernel_rfl) (by kernel_rfl) (by kernel_rfl) (H2 := [.box [.str x0, .int .i64 s138]]) (by kernel_rfl) (n := 1) (by kernel_rfl) ?_
    refine kD 11 ?_
    refine RJ.caseB 16 (b := (decide (s138 < (x0.length : Int)))) (by kernel_rfl) (fun hb260 => ?_) (fun hb260 => ?_)
    ·have h261 := condT hb260 hy257
     refine kD 8 ?_
     obtain ⟨hm, h263⟩ := asrt h261
     refine RJ.rel (d := (some 25)) (ef := ⟨.int .u8 (((x0.getD (s138 : Int).toNat 0).toNat : Nat) : Int), [], []⟩) (ef' := ⟨.int .u8 (((x0.getD (s138 : Int).toNat 0).toNat : Nat) : Int), [], []⟩) (c := inR s138 x0.length) (tr2 := [([], []), ([], []), ([], []), ([0, 1], []), ([], []), ([], []), ([], []), ([0, 1], []), ([], []), ([], []), ([], []), ([], []), ([], []), ([], []), ([0, 1], []), ([], []), ([], []), ([], []), ([0, 1], []), ([], [])]) (H2 := [.box [.str x0, .int .i64 s138]]) (by kernel_rfl) hm (fun hc => rfl) (by kernel_rfl) ?_
     refine kD 2 ?_
     refine kE ?_
     obtain rfl := oi h263
     exact kN [0, 1, 4, 27]
    ·have h262 := condF hb260 hy257
     refine kD 11 ?_
     refine kE ?_
     obtain rfl := oi h262
     exact kN [0, 1, 4, 27]
   ·refine J.caseB 27 (b := s255) (by kernel_rfl) (fun hb264 => ?_) (fun hb264 => ?_)
    ·have h265 := condT hb264 h259
     refine kT ?_
     refine kK ?_
     obtain rfl := oi h265
     exact PJ.cutXl [0, 1, 4] (by kernel_rfl) (by kernel_rfl)
    ·have h266 := condF hb264 h259
     refine kF ?_
     refine K.exit 0 (by kernel_rfl) ?_
     obtain rfl := oi h266
     have h267 := joinX_inr h249
     refine PJ.cutXr (fun e => nomatch e) ?_
     obtain rfl := oi h267
     refine PJ.loopOut (fun e => nomatch e) (fun he269 => ?_)
     have h268 := congrArg some he269
     refine PJ.blockOut ?_
     obtain rfl := oi h268
     exact kN [0, 1, 4]
  ·subst hs
   have h250 := joinX_inl h249
   refine K.block 1 (by kernel_rfl) ?_
   refine kR ?_
   refine kC 8 [0,1,4] ?_
   refine kE ?_
   refine PJ.blockNormal ?_
   obtain rfl := oi h250
   exact PJ.loopNext [0, 1, 4] (by kernel_rfl) (by kernel_rfl)
 ·refine kSR ?_
  refine kC 5 [0,1,4,5] ?_
  refine kEN ?_
  obtain ⟨s438, hy440, h442⟩ := bindS h137
  refine K.cutN (by kernel_rfl) (fun (s438 : Int) => ([(0, .ptr 0 0), (4, .str ([] : List UInt8)), (5, .int .i64 s438)], [.box [.str x0, .int .i64 s133]])) s438 ?_ ?_
  ·refine K.block 2 (by kernel_rfl) ?_
   refine K.loop (by kernel_rfl) (fun (s443 : Int) => ([(0, .ptr 0 0), (1, .fn (.func 63) [] []), (4, .str ([] : List UInt8)), (5, .int .i64 s443)], [.box [.str x0, .int .i64 s133]])) hy440 [0, 1, 4, 5] (by kernel_rfl) (by kernel_rfl) (fun s443 x555 hs554 => ?_)
   obtain ⟨y582, hy583, h584⟩ := bindS hs554
   refine K.cutX (by kernel_rfl) (fun (s581 : Unit) => ([(0, .ptr 0 0), (1, .fn (.func 63) [] []), (4, .str ([] : List UInt8)), (5, .int .i64 s443)], [.box [.str x0, .int .i64 s133]])) y582 ?_ (fun s581 hs => ?_)
   ·obtain ⟨s593, hy595, h597⟩ := bindS hy583
    refine K.cutN (by kernel_rfl) (fun (s593 : Bool) => ([(0, .ptr 0 0), (1, .fn (.func 63) [] []), (4, .str ([] : List UInt8)), (5, .int .i64 s443), (55, .bool s593)], [.box [.str x0, .int .i64 s133]])) s593 ?_ ?_
    ·refine kR ?_
     refine kC 8 [0,1,4,5,46] ?_
     refine RJ.caseB 46 (b := (decide (s443 < (x0.length : Int)))) (by kernel_rfl) (fun hb598 => ?_) (fun hb598 => ?_)
     ·have h599 := condT hb598 hy595
      refine kC 6 [0,1,4,5,46,47,51,52] ?_
      obtain ⟨hm, h601⟩ := asrt h599
      refine RJ.rel (d := (some 53)) (ef := ⟨.int .u8 (((x0.getD (s443 : Int).toNat 0).toNat : Nat) : Int), [], []⟩) (ef' := ⟨.int .u8 (((x0.getD (s443 : Int).toNat 0).toNat : Nat) : Int), [], []⟩) (c := inR s443 x0.length) (tr2 := []) (H2 := [.box [.str x0, .int .i64 s133]]) (by kernel_rfl) hm (fun hc => rfl) (by kernel_rfl) ?_
      obtain ⟨y602, hy603, h604⟩ := bindS h601
      refine RJ.call0 (d := (some 54)) (f := 63) (args := [.int .u8 ((((x0.getD (s443 : Int).toNat 0).toNat : Nat) : Int))]) (v := .bool y602) (tr2 := []) (by kernel_rfl) (by kernel_rfl) (.cons (Le.refl _) .nil) (rule_reader__word_1_ok hy603) (by kernel_rfl) ?_
      refine kC 1 [0,1,4,5,55] ?_
      refine kE ?_
      obtain rfl := oi h604
      exact kN [0, 1, 4, 5, 55]
     ·have h600 := condF hb598 hy595
      refine kC 9 [0,1,4,5,55] ?_
      refine kE ?_
      obtain rfl := oi h600
      exact kN [0, 1, 4, 5, 55]
    ·refine J.caseB 55 (b := s593) (by kernel_rfl) (fun hb605 => ?_) (fun hb605 => ?_)
     ·have h606 := condT hb605 h597
      refine kT ?_
      refine kK ?_
      obtain rfl := oi h606
      exact PJ.cutXl [0, 1, 4, 5] (by kernel_rfl) (by kernel_rfl)
     ·have h607 := condF hb605 h597
      refine kF ?_
      refine K.exit 2 (by kernel_rfl) ?_
      obtain rfl := oi h607
      have h608 := joinX_inr h584
      refine PJ.cutXr (fun e => nomatch e) ?_
      obtain rfl := oi h608
      refine PJ.loopOut (fun e => nomatch e) (fun he610 => ?_)
      have h609 := congrArg some he610
      refine PJ.blockOut ?_
      obtain rfl := oi h609
      exact kN [0, 4, 5]
   ·subst hs
    have h585 := joinX_inl h584
    refine K.block 3 (by kernel_rfl) ?_
    refine kR ?_
    refine kC 3 [0,1,4,5] ?_
    refine kE ?_
    refine PJ.blockNormal ?_
    obtain rfl := oi h585
    exact PJ.loopNext [0, 1, 4, 5] (by kernel_rfl) (by kernel_rfl)
  ·refine kS ?_
   refine J.keep [0, 4, 5] (L2 := [(0, .ptr 0 0), (4, .str ([] : List UInt8)), (5, .int .i64 s438)]) (by kernel_rfl) ?_
   refine K.draw (by kernel_rfl) (by kernel_rfl) (by kernel_rfl) (H2 := [.box [.str x0, .int .i64 s133]]) (by kernel_rfl) (n := 1) (by kernel_rfl) ?_
   refine kD 9 ?_
   obtain ⟨hm, h611⟩ := asrt h442
   refine RJ.rel (d := (some 67)) (ef := ⟨.str (cut x0 s133 s438), [], []⟩) (ef' := ⟨.str (cut x0 s133 s438), [], []⟩) (c := inS s133 s438 x0.length) (tr2 := [([], []), ([], []), ([], []), ([0, 1], []), ([], []), ([], []), ([], []), ([0, 1], []), ([], []), ([], [])]) (H2 := [.box [.str x0, .int .i64 s133]]) (by kernel_rfl) hm (fun hc => rfl) (by kernel_rfl) ?_
   refine kD 1 ?_
   refine kEN ?_
   refine kX ?_
   obtain rfl := oi h611
   exact K.retV (H0 := [.box [.str x0, .int .i64 x1]]) [0] (.inr rfl) hFn hFH hFD (by kernel_rfl) (v1 := .str (cut x0 s133 s438)) (by kernel_rfl) (by kernel_rfl) (by kernel_rfl) (by decide) (by kernel_rfl) (by kernel_rfl) (by kernel_rfl) (by kernel_rfl) (by kernel_rfl)
def rule_reader__word_s0 (x0 : List UInt8) (x1 : Int) : Option ((List UInt8) × Int) :=
 (Option.bind (rule_reader__run_s0 x0 x1) fun y1 => (some (y1.1, y1.2)))
theorem rule_reader__word_s0_ok {x0 : List UInt8} {x1 : Int} {r : (List UInt8) × Int} (h : rule_reader__word_s0 x0 x1 = some r) : SC Tryz.prog 43 [.ptr 0 0] [.box [.str x0, .int .i64 x1]] (.str r.1) [.box [.str x0, .int .i64 r.2]] := by
 refine kFn (fn := Tryz.f43) (fun F hFn hFH hFD => ?_)
 unfold rule_reader__word_s0 at h
 refine kSR ?_
 refine kC 1 [0,2] ?_
 refine kEN ?_
 refine kSR ?_
 refine kC 1 [2,3] ?_
 obtain ⟨y1, hy2, h3⟩ := bindS h
 refine RJ.callG (d := (some 4)) (f := 62) (args := [.ptr 0 0, .fn (.func 63) [] []]) (args0 := [.ptr 0 0, .fn (.func 63) [] []]) (v0 := .str y1.1) (v := .str y1.1) (tr2 := []) (H0 := [.box [.str x0, .int .i64 x1]]) (H0' := [.box [.str x0, .int .i64 y1.2]]) (H2 := [.box [.str x0, .int .i64 y1.2]]) [0] (by kernel_rfl) (by kernel_rfl) (by kernel_rfl) (by kernel_rfl) (by decide) (by kernel_rfl) (by kernel_rfl) (by kernel_rfl) (.cons (Le.refl _) (.cons (Le.refl _) .nil)) (rule_reader__run_s0_ok hy2) (by kernel_rfl) (by kernel_rfl) (by kernel_rfl) ?_
 refine kC 1 [2] ?_
 refine kEN ?_
 refine kX ?_
 obtain rfl := oi h3
 exact K.retV (H0 := [.box [.str x0, .int .i64 x1]]) [0] (.inr rfl) hFn hFH hFD (by kernel_rfl) (v1 := .str y1.1) (by kernel_rfl) (by kernel_rfl) (by kernel_rfl) (by decide) (by kernel_rfl) (by kernel_rfl) (by kernel_rfl) (by kernel_rfl) (by kernel_rfl)
def idxRen : Go.Shelf.Ren := ⟨fun x => match x with | 217 => 98 | 266 => 102 | n => n, fun x => x, fun x => x⟩
theorem idx_lays : Lays.n217 Tryz.prog idxRen := by
 constructor <;> first | kernel_rfl | (intro w; kernel_rfl) | (intro w; rfl)
def stringslite_IndexByte (x0 : List UInt8) (x1 : Int) : Option (Int) :=
 (some (Lib.indexByte x0 x1.toNat.toUInt8))
theorem stringslite_IndexByte_ok {x0 : List UInt8} {x1 : Int} {r : Int} (h : stringslite_IndexByte x0 x1 = some r) : SC Tryz.prog 98 [.str x0, .int .u8 x1] [] (.int .i64 r) [] := by
 obtain rfl := oi h
 exact SC.byteIdx (by kernel_rfl) (fun b c w => Any.stringslite_IndexByte idx_lays b c w)
def stringslite_Index (x0 : List UInt8) (x1 : List UInt8) : Option (Int) :=
 (Option.bind (bif (decide ((x1.length : Int) = 0)) then (some true) else (some (x1 == x0))) fun (s4 : Bool) => (bif s4 then (some 0) else (bif (decide ((x1.length : Int) = 1)) then (bif inR 0 x1.length then (Option.bind (stringslite_IndexByte x0 ((((x1.getD (0 : Int).toNat 0).toNat : Nat) : Int))) fun y19 => (some y19)) else none) else (bif (decide ((x1.length : Int) ≥ (x0.length : Int))) then (some (-1)) else none))))
theorem stringslite_Index_ok {x0 : List UInt8} {x1 : List UInt8} {r : Int} (h : stringslite_Index x0 x1 = some r) : SC Tryz.prog 94 [.str x0, .str x1] [] (.int .i64 r) [] := by
 refine kFn (fn := Tryz.f94) (fun F hFn hFH hFD => ?_)
 unfold stringslite_Index at h
 refine kSR ?_
 refine kC 1 [0,1,4] ?_
 refine kEN ?_
 refine kSR ?_
 refine kC 3 [0,1,4,5] ?_
 refine kEN ?_
 refine kS ?_
 refine K.block 0 (by kernel_rfl) ?_
 obtain ⟨s4, hy6, h8⟩ := bindS h
 refine K.cutN (by kernel_rfl) (fun (s4 : Bool) => ([(0, .str x0), (1, .str x1), (4, .int .i64 0), (5, .int .i64 (x1.length : Int)), (16, .bool s4)], [])) s4 ?_ ?_
 ·refine kR ?_
  refine kC 3 [0,1,4,5,19] ?_
  refine RJ.caseB 19 (b := (decide ((x1.length : Int) = 0))) (by kernel_rfl) (fun hb9 => ?_) (fun hb9 => ?_)
  ·have h10 := condT hb9 hy6
   refine RJ.seg 5 [0, 1, 4, 5, 16] (L2 := [(0, .str x0), (1, .str x1), (4, .int .i64 0), (5, .int .i64 (x1.length : Int)), (16, .bool true)]) (H2 := []) (by kernel_rfl) ?_
   refine kE ?_
   obtain rfl := oi h10
   exact kN [0, 1, 4, 5, 16]
  ·have h11 := condF hb9 hy6
   refine RJ.seg 5 [0, 1, 4, 5, 16] (L2 := [(0, .str x0), (1, .str x1), (4, .int .i64 0), (5, .int .i64 (x1.length : Int)), (16, .bool (x1 == x0))]) (H2 := []) (by kernel_rfl) ?_
   refine kE ?_
   obtain rfl := oi h11
   exact kN [0, 1, 4, 5, 16]
 ·refine J.caseB 16 (b := s4) (by kernel_rfl) (fun hb12 => ?_) (fun hb12 => ?_)
  ·have h13 := condT hb12 h8
   refine kT ?_
   refine kSR ?_
   refine kC 1 [0,1,4,5] ?_
   refine kEN ?_
   refine kX ?_
   refine PJ.blockRet ?_
   refine PJ.passRet ?_
   obtain rfl := oi h13
   exact kZ hFn hFH hFD
  ·have h14 := condF hb12 h8
   refine kF ?_
   refine kSR ?_
   refine kC 3 [0,1,4,5,24] ?_
   refine kEN ?_
   refine J.caseB 24 (b := (decide ((x1.length : Int) = 1))) (by kernel_rfl) (fun hb15 => ?_) (fun hb15 => ?_)
   ·have h16 := condT hb15 h14
    refine kT ?_
    refine kSR ?_
    refine kC 2 [0,1,4,5,27,28] ?_
    obtain ⟨hm, h18⟩ := asrt h16
    refine RJ.rel (d := (some 29)) (ef := ⟨.int .u8 (((x1.getD (0 : Int).toNat 0).toNat : Nat) : Int), [], []⟩) (ef' := ⟨.int .u8 (((x1.getD (0 : Int).toNat 0).toNat : Nat) : Int), [], []⟩) (c := inR 0 x1.length) (tr2 := []) (H2 := []) (by kernel_rfl) hm (fun hc => rfl) (by kernel_rfl) ?_
    obtain ⟨y19, hy20, h21⟩ := bindS h18
    refine RJ.call0 (d := (some 30)) (f := 98) (args := [.str x0, .int .u8 ((((x1.getD (0 : Int).toNat 0).toNat : Nat) : Int))]) (v := .int .i64 y19) (tr2 := []) (by kernel_rfl) (by kernel_rfl) (.cons (Le.refl _) (.cons (Le.refl _) .nil)) (stringslite_IndexByte_ok hy20) (by kernel_rfl) ?_
    refine kC 1 [0,1,4,5] ?_
    refine kEN ?_
    refine kX ?_
    refine PJ.blockRet ?_
    refine PJ.passRet ?_
    obtain rfl := oi h21
    exact kZ hFn hFH hFD
   ·have h17 := condF hb15 h14
    refine kF ?_
    refine kSR ?_
    refine kC 5 [0,1,4,5,31] ?_
    refine kEN ?_
    refine J.caseB 31 (b := (decide ((x1.length : Int) ≥ (x0.length : Int)))) (by kernel_rfl) (fun hb22 => ?_) (fun hb22 => ?_)
    ·have h23 := condT hb22 h17
     refine kT ?_
     refine kSR ?_
     refine kC 1 [0,1,4,5] ?_
     refine kEN ?_
     refine kX ?_
     refine PJ.blockRet ?_
     refine PJ.passRet ?_
     obtain rfl := oi h23
     exact kZ hFn hFH hFD
    ·have h24 := condF hb22 h17
     refine kF ?_
     refine kSR ?_
     cases h24
def strings_Index (x0 : List UInt8) (x1 : List UInt8) : Option (Int) :=
 (Option.bind (stringslite_Index x0 x1) fun y1 => (some y1))
theorem strings_Index_ok {x0 : List UInt8} {x1 : List UInt8} {r : Int} (h : strings_Index x0 x1 = some r) : SC Tryz.prog 84 [.str x0, .str x1] [] (.int .i64 r) [] := by
 refine kFn (fn := Tryz.f84) (fun F hFn hFH hFD => ?_)
 unfold strings_Index at h
 refine kSR ?_
 refine kC 1 [0,1,4] ?_
 refine kEN ?_
 refine kSR ?_
 refine kC 2 [4,5,6] ?_
 obtain ⟨y1, hy2, h3⟩ := bindS h
 refine RJ.call0 (d := (some 7)) (f := 94) (args := [.str x0, .str x1]) (v := .int .i64 y1) (tr2 := []) (by kernel_rfl) (by kernel_rfl) (.cons (Le.refl _) (.cons (Le.refl _) .nil)) (stringslite_Index_ok hy2) (by kernel_rfl) ?_
 refine kC 1 [4] ?_
 refine kEN ?_
 refine kX ?_
 obtain rfl := oi h3
 exact kZ hFn hFH hFD
def strings_Contains (x0 : List UInt8) (x1 : List UInt8) : Option (Bool) :=
 (Option.bind (strings_Index x0 x1) fun y1 => (some (decide (y1 ≥ 0))))
theorem strings_Contains_ok {x0 : List UInt8} {x1 : List UInt8} {r : Bool} (h : strings_Contains x0 x1 = some r) : SC Tryz.prog 75 [.str x0, .str x1] [] (.bool r) [] := by
 refine kFn (fn := Tryz.f75) (fun F hFn hFH hFD => ?_)
 unfold strings_Contains at h
 refine kSR ?_
 refine kC 1 [0,1,4] ?_
 refine kEN ?_
 refine kSR ?_
 refine kC 2 [4,5,6] ?_
 obtain ⟨y1, hy2, h3⟩ := bindS h
 refine RJ.call0 (d := (some 7)) (f := 84) (args := [.str x0, .str x1]) (v := .int .i64 y1) (tr2 := []) (by kernel_rfl) (by kernel_rfl) (.cons (Le.refl _) (.cons (Le.refl _) .nil)) (strings_Index_ok hy2) (by kernel_rfl) ?_
 refine kC 2 [4] ?_
 refine kEN ?_
 refine kX ?_
 obtain rfl := oi h3
 exact kZ hFn hFH hFD
def rule_reader__operand_s0 (x0 : List UInt8) (x1 : Int) (x2 : Int) (x3 : Int) (x4 : Bool) : Option (Bool × Int × Int) :=
 (Option.bind (rule_reader__word_s0 x0 x1) fun y1 => (Option.bind (Option.bind (bif (decide (¬ (y1.1.length : Int) = 1)) then (some true) else (Option.bind (strings_Contains ([110, 105, 118, 119, 102, 116, 99, 101] : List UInt8) y1.1) fun y44 => (some (!y44)))) fun (s36 : Bool) => (bif s36 then (some (.inr (false, y1.2, x2))) else (some (.inl ())))) (joinX fun (s25 : Unit) => (bif inR 0 y1.1.length then (some (true, (IntKind.wrap .i64 (y1.2 + 1)), (((y1.1.getD (0 : Int).toNat 0).toNat : Nat) : Int))) else none))))
theorem rule_reader__operand_s0_ok {x0 : List UInt8} {x1 : Int} {x2 : Int} {x3 : Int} {x4 : Bool} {r : Bool × Int × Int} (h : rule_reader__operand_s0 x0 x1 x2 x3 x4 = some r) : SC Tryz.prog 58 [.ptr 0 0, .ptr 1 0] [.box [.str x0, .int .i64 x1], .box [.int .u8 x2, .int .i64 x3, .bool x4, .nl]] (.bool r.1) [.box [.str x0, .int .i64 r.2.1], .box [.int .u8 r.2.2, .int .i64 x3, .bool x4, .nl]] := by
 refine kFn (fn := Tryz.f58) (fun F hFn hFH hFD => ?_)
 unfold rule_reader__operand_s0 at h
 refine kSR ?_
 refine kC 1 [0,1,4] ?_
 refine kEN ?_
 refine kSR ?_
 refine kC 1 [0,1,4,6] ?_
 obtain ⟨y1, hy2, h3⟩ := bindS h
 refine RJ.callG (d := (some 7)) (f := 43) (args := [.ptr 0 0]) (args0 := [.ptr 0 0]) (v0 := .str y1.1) (v := .str y1.1) (tr2 := []) (H0 := [.box [.str x0, .int .i64 x1]]) (H0' := [.box [.str x0, .int .i64 y1.2]]) (H2 := [.box [.str x0, .int .i64 y1.2], .box [.int .u8 x2, .int .i64 x3, .bool x4, .nl]]) [0] (by kernel_rfl) (by kernel_rfl) (by kernel_rfl) (by kernel_rfl) (by decide) (by kernel_rfl) (by kernel_rfl) (by kernel_rfl) (.cons (Le.refl _) .nil) (rule_reader__word_s0_ok hy2) (by kernel_rfl) (by kernel_rfl) (by kernel_rfl) ?_
 refine kC 1 [0,1,4,5] ?_
 refine kEN ?_
 obtain ⟨y26, hy27, h28⟩ := bindS h3
 refine K.cutX (by kernel_rfl) (fun (s25 : Unit) => ([(0, .ptr 0 0), (1, .ptr 1 0), (4, .bool false), (5, .str y1.1)], [.box [.str x0, .int .i64 y1.2], .box [.int .u8 x2, .int .i64 x3, .bool x4, .nl]])) y26 ?_ (fun s25 hs => ?_)
 ·obtain ⟨s36, hy38, h40⟩ := bindS hy27
  refine K.cutN (by kernel_rfl) (fun (s36 : Bool) => ([(0, .ptr 0 0), (1, .ptr 1 0), (4, .bool false), (5, .str y1.1), (15, .bool s36)], [.box [.str x0, .int .i64 y1.2], .box [.int .u8 x2, .int .i64 x3, .bool x4, .nl]])) s36 ?_ ?_
  ·refine kR ?_
   refine RJ.seg 4 [0, 1, 4, 5, 11] (L2 := [(0, .ptr 0 0), (1, .ptr 1 0), (4, .bool false), (5, .str y1.1), (11, .bool ((decide (¬ (y1.1.length : Int) = 1))))]) (H2 := [.box [.str x0, .int .i64 y1.2], .box [.int .u8 x2, .int .i64 x3, .bool x4, .nl]]) (by kernel_rfl) ?_
   refine RJ.caseB 11 (b := (decide (¬ (y1.1.length : Int) = 1))) (by kernel_rfl) (fun hb41 => ?_) (fun hb41 => ?_)
   ·have h42 := condT hb41 hy38
    refine kC 4 [0,1,4,5,15] ?_
    refine kE ?_
    obtain rfl := oi h42
    exact kN [0, 1, 4, 5, 15]
   ·have h43 := condF hb41 hy38
    refine kC 1 [0,1,4,5,11,12] ?_
    obtain ⟨y44, hy45, h46⟩ := bindS h43
    refine RJ.call0 (d := (some 13)) (f := 75) (args := [.str ([110, 105, 118, 119, 102, 116, 99, 101] : List UInt8), .str y1.1]) (v := .bool y44) (tr2 := []) (by kernel_rfl) (by kernel_rfl) (.cons (Le.refl _) (.cons (Le.refl _) .nil)) (strings_Contains_ok hy45) (by kernel_rfl) ?_
    refine kC 2 [0,1,4,5,15] ?_
    refine kE ?_
    obtain rfl := oi h46
    exact kN [0, 1, 4, 5, 15]
  ·refine J.caseB 15 (b := s36) (by kernel_rfl) (fun hb47 => ?_) (fun hb47 => ?_)
   ·have h48 := condT hb47 h40
    refine kT ?_
    refine kSR ?_
    refine kC 1 [0,1,4,5] ?_
    refine kEN ?_
    refine kX ?_
    obtain rfl := oi h48
    have h50 := joinX_inr h28
    refine PJ.cutXr (fun e => nomatch e) ?_
    obtain rfl := oi h50
    exact K.retV (H0 := [.box [.str x0, .int .i64 x1], .box [.int .u8 x2, .int .i64 x3, .bool x4, .nl]]) [0, 1] (.inr rfl) hFn hFH hFD (by kernel_rfl) (v1 := .bool false) (by kernel_rfl) (by kernel_rfl) (by kernel_rfl) (by decide) (by kernel_rfl) (by kernel_rfl) (by kernel_rfl) (by kernel_rfl) (by kernel_rfl)
   ·have h49 := condF hb47 h40
    refine kF ?_
    refine kK ?_
    obtain rfl := oi h49
    exact PJ.cutXl [0, 1, 4, 5] (by kernel_rfl) (by kernel_rfl)
 ·subst hs
  have h29 := joinX_inl h28
  refine kSR ?_
  refine kC 2 [0,4,16,17] ?_
  obtain ⟨hm, h51⟩ := asrt h29
  refine RJ.rel (d := (some 18)) (ef := ⟨.int .u8 (((y1.1.getD (0 : Int).toNat 0).toNat : Nat) : Int), [], []⟩) (ef' := ⟨.int .u8 (((y1.1.getD (0 : Int).toNat 0).toNat : Nat) : Int), [], []⟩) (c := inR 0 y1.1.length) (tr2 := []) (H2 := [.box [.str x0, .int .i64 y1.2], .box [.int .u8 x2, .int .i64 x3, .bool x4, .nl]]) (by kernel_rfl) hm (fun hc => rfl) (by kernel_rfl) ?_
  refine kC 3 [0,4] ?_
  refine kEN ?_
  refine kSR ?_
  refine kC 8 [4] ?_
  refine kEN ?_
  refine kSR ?_
  refine RJ.seg 1 [4] (L2 := [(4, .bool true)]) (H2 := [.box [.str x0, .int .i64 (IntKind.wrap .i64 (y1.2 + 1))], .box [.int .u8 ((((y1.1.getD (0 : Int).toNat 0).toNat : Nat) : Int)), .int .i64 x3, .bool x4, .nl]]) (by kernel_rfl) ?_
  refine kEN ?_
  refine kX ?_
  obtain rfl := oi h51
  exact K.retV (H0 := [.box [.str x0, .int .i64 x1], .box [.int .u8 x2, .int .i64 x3, .bool x4, .nl]]) [0, 1] (.inr rfl) hFn hFH hFD (by kernel_rfl) (v1 := .bool true) (by kernel_rfl) (by kernel_rfl) (by kernel_rfl) (by decide) (by kernel_rfl) (by kernel_rfl) (by kernel_rfl) (by kernel_rfl) (by kernel_rfl)
def rule_reader__eat_1 (x0 : Int) : Option (Bool) :=
 (some false)
theorem rule_reader__eat_1_ok {x0 : Int} {r : Bool} (h : rule_reader__eat_1 x0 = some r) : SC Tryz.prog 85 [.int .u8 x0] [] (.bool r) [] := by
 refine kFn (fn := Tryz.f85) (fun F hFn hFH hFD => ?_)
 unfold rule_reader__eat_1 at h
 refine kSR ?_
 refine kC 1 [2] ?_
 refine kEN ?_
 refine kSR ?_
 refine kC 1 [2] ?_
 refine kEN ?_
 refine kX ?_
 obtain rfl := oi h
 exact kZ hFn hFH hFD
def rule_reader__run_s1 (x0 : List UInt8) (x1 : Int) : Option ((List UInt8) × Int) :=
 (Option.bind (loopN (fun (s138 : Int) => (Option.bind (Option.bind (bif (decide (s138 < (x0.length : Int))) then (bif inR s138 x0.length then (some ((decide (((((x0.getD (s138 : Int).toNat 0).toNat : Nat) : Int)) = 32)))) else none) else (some false)) fun (s255 : Bool) => (bif s255 then (some (.inl ())) else (some (.inr (.inr s138))))) (joinX fun (s246 : Unit) => (some (.inl (IntKind.wrap .i64 (s138 + 1))))))) big x1) fun (s133 : Int) => (Option.bind (loopN (fun (s443 : Int) => (Option.bind (Option.bind (bif (decide (s443 < (x0.length : Int))) then (bif inR s443 x0.length then (Option.bind (rule_reader__eat_1 ((((x0.getD (s443 : Int).toNat 0).toNat : Nat) : Int))) fun y602 => (some y602)) else none) else (some false)) fun (s593 : Bool) => (bif s593 then (some (.inl ())) else (some (.inr (.inr s443))))) (joinX fun (s581 : Unit) => (some (.inl (IntKind.wrap .i64 (s443 + 1))))))) big s133) fun (s438 : Int) => (bif inS s133 s438 x0.length then (some ((cut x0 s133 s438), s133)) else none)))
theorem rule_reader__run_s1_ok {x0 : List UInt8} {x1 : Int} {r : (List UInt8) × Int} (h : rule_reader__run_s1 x0 x1 = some r) : SC Tryz.prog 62 [.ptr 0 0, .fn (.func 85) [] []] [.box [.str x0, .int .i64 x1]] (.str r.1) [.box [.str x0, .int .i64 r.2]] := by
 refine kFn (fn := Tryz.f62) (fun F hFn hFH hFD => ?_)
 unfold rule_reader__run_s1 at h
 refine kSR ?_
 refine kC 1 [0,1,4] ?_
 refine kEN ?_
 obtain ⟨s133, hy135, h137⟩ := bindS h
 refine K.cutN (by kernel_rfl) (fun (s133 : Int) => ([(0, .ptr 0 0), (1, .fn (.func 85) [] []), (4, .str ([] : List UInt8))], [.box [.str x0, .int .i64 s133]])) s133 ?_ ?_
 ·refine K.block 0 (by kernel_rfl) ?_
  refine K.loop (by kernel_rfl) (fun (s138 : Int) => ([(0, .ptr 0 0), (1, .fn (.func 85) [] []), (4, .str ([] : List UInt8))], [.box [.str x0, .int .i64 s138]])) hy135 [0, 1, 4] (by kernel_rfl) (by kernel_rfl) (fun s138 x226 hs225 => ?_)
  obtain ⟨y247, hy248, h249⟩ := bindS hs225
  refine K.cutX (by kernel_rfl) (fun (s246 : Unit) => ([(0, .ptr 0 0), (1, .fn (.func 85) [] []), (4, .str ([] : List UInt8))], [.box [.str x0, .int .i64 s138]])) y247 ?_ (fun s246 hs => ?_)
  ·obtain ⟨s255, hy257, h259⟩ := bindS hy248
   refine K.cutN (by kernel_rfl) (fun (s255 : Bool) => ([(0, .ptr 0 0), (1, .fn (.func 85) [] []), (4, .str ([] : List UInt8)), (27, .bool s255)], [.box [.str x0, .int .i64 s138]])) s255 ?_ ?_
   ·refine J.keep [0, 1, 4] (L2 := [(0, .ptr 0 0), (1, .fn (.func 85) [] []), (4, .str ([] : List UInt8))]) (by kernel_rfl) ?_
    refine K.draw (by kernel_rfl) (by kernel_rfl) (by kernel_rfl) (H2 := [.box [.str x0, .int .i64 s138]]) (by kernel_rfl) (n := 1) (by kernel_rfl) ?_
    refine kD 11 ?_
    refine RJ.caseB 16 (b := (decide (s138 < (x0.length : Int)))) (by kernel_rfl) (fun hb260 => ?_) (fun hb260 => ?_)
    ·have h261 := condT hb260 hy257
     refine kD 8 ?_
     obtain ⟨hm, h263⟩ := asrt h261
     refine RJ.rel (d := (some 25)) (ef := ⟨.int .u8 (((x0.getD (s138 : Int).toNat 0).toNat : Nat) : Int), [], []⟩) (ef' := ⟨.int .u8 (((x0.getD (s138 : Int).toNat 0).toNat : Nat) : Int), [], []⟩) (c := inR s138 x0.length) (tr2 := [([], []), ([], []), ([], []), ([0, 1], []), ([], []), ([], []), ([], []), ([0, 1], []), ([], []), ([], []), ([], []), ([], []), ([], []), ([], []), ([0, 1], []), ([], []), ([], []), ([], []), ([0, 1], []), ([], [])]) (H2 := [.box [.str x0, .int .i64 s138]]) (by kernel_rfl) hm (fun hc => rfl) (by kernel_rfl) ?_
     refine kD 2 ?_
     refine kE ?_
     obtain rfl := oi h263
     exact kN [0, 1, 4, 27]
    ·have h262 := condF hb260 hy257
     refine kD 11 ?_
     refine kE ?_
     obtain rfl := oi h262
     exact kN [0, 1, 4, 27]
   ·refine J.caseB 27 (b := s255) (by kernel_rfl) (fun hb264 => ?_) (fun hb264 => ?_)
    ·have h265 := condT hb264 h259
     refine kT ?_
     refine kK ?_
     obtain rfl := oi h265
     exact PJ.cutXl [0, 1, 4] (by kernel_rfl) (by kernel_rfl)
    ·have h266 := condF hb264 h259
     refine kF ?_
     refine K.exit 0 (by kernel_rfl) ?_
     obtain rfl := oi h266
     have h267 := joinX_inr h249
     refine PJ.cutXr (fun e => nomatch e) ?_
     obtain rfl := oi h267
     refine PJ.loopOut (fun e => nomatch e) (fun he269 => ?_)
     have h268 := congrArg some he269
     refine PJ.blockOut ?_
     obtain rfl := oi h268
     exact kN [0, 1, 4]
  ·subst hs
   have h250 := joinX_inl h249
   refine K.block 1 (by kernel_rfl) ?_
   refine kR ?_
   refine kC 8 [0,1,4] ?_
   refine kE ?_
   refine PJ.blockNormal ?_
   obtain rfl := oi h250
   exact PJ.loopNext [0, 1, 4] (by kernel_rfl) (by kernel_rfl)
 ·refine kSR ?_
  refine kC 5 [0,1,4,5] ?_
  refine kEN ?_
  obtain ⟨s438, hy440, h442⟩ := bindS h137
  refine K.cutN (by kernel_rfl) (fun (s438 : Int) => ([(0, .ptr 0 0), (4, .str ([] : List UInt8)), (5, .int .i64 s438)], [.box [.str x0, .int .i64 s133]])) s438 ?_ ?_
  ·refine K.block 2 (by kernel_rfl) ?_
   refine K.loop (by kernel_rfl) (fun (s443 : Int) => ([(0, .ptr 0 0), (1, .fn (.func 85) [] []), (4, .str ([] : List UInt8)), (5, .int .i64 s443)], [.box [.str x0, .int .i64 s133]])) hy440 [0, 1, 4, 5] (by kernel_rfl) (by kernel_rfl) (fun s443 x555 hs554 => ?_)
   obtain ⟨y582, hy583, h584⟩ := bindS hs554
   refine K.cutX (by kernel_rfl) (fun (s581 : Unit) => ([(0, .ptr 0 0), (1, .fn (.func 85) [] []), (4, .str ([] : List UInt8)), (5, .int .i64 s443)], [.box [.str x0, .int .i64 s133]])) y582 ?_ (fun s581 hs => ?_)
   ·obtain ⟨s593, hy595, h597⟩ := bindS hy583
    refine K.cutN (by kernel_rfl) (fun (s593 : Bool) => ([(0, .ptr 0 0), (1, .fn (.func 85) [] []), (4, .str ([] : List UInt8)), (5, .int .i64 s443), (55, .bool s593)], [.box [.str x0, .int .i64 s133]])) s593 ?_ ?_
    ·refine kR ?_
     refine kC 8 [0,1,4,5,46] ?_
     refine RJ.caseB 46 (b := (decide (s443 < (x0.length : Int)))) (by kernel_rfl) (fun hb598 => ?_) (fun hb598 => ?_)
     ·have h599 := condT hb598 hy595
      refine kC 6 [0,1,4,5,46,47,51,52] ?_
      obtain ⟨hm, h601⟩ := asrt h599
      refine RJ.rel (d := (some 53)) (ef := ⟨.int .u8 (((x0.getD (s443 : Int).toNat 0).toNat : Nat) : Int), [], []⟩) (ef' := ⟨.int .u8 (((x0.getD (s443 : Int).toNat 0).toNat : Nat) : Int), [], []⟩) (c := inR s443 x0.length) (tr2 := []) (H2 := [.box [.str x0, .int .i64 s133]]) (by kernel_rfl) hm (fun hc => rfl) (by kernel_rfl) ?_
      obtain ⟨y602, hy603, h604⟩ := bindS h601
      refine RJ.call0 (d := (some 54)) (f := 85) (args := [.int .u8 ((((x0.getD (s443 : Int).toNat 0).toNat : Nat) : Int))]) (v := .bool y602) (tr2 := []) (by kernel_rfl) (by kernel_rfl) (.cons (Le.refl _) .nil) (rule_reader__eat_1_ok hy603) (by kernel_rfl) ?_
      refine kC 1 [0,1,4,5,55] ?_
      refine kE ?_
      obtain rfl := oi h604
      exact kN [0, 1, 4, 5, 55]
     ·have h600 := condF hb598 hy595
      refine kC 9 [0,1,4,5,55] ?_
      refine kE ?_
      obtain rfl := oi h600
      exact kN [0, 1, 4, 5, 55]
    ·refine J.caseB 55 (b := s593) (by kernel_rfl) (fun hb605 => ?_) (fun hb605 => ?_)
     ·have h606 := condT hb605 h597
      refine kT ?_
      refine kK ?_
      obtain rfl := oi h606
      exact PJ.cutXl [0, 1, 4, 5] (by kernel_rfl) (by kernel_rfl)
     ·have h607 := condF hb605 h597
      refine kF ?_
      refine K.exit 2 (by kernel_rfl) ?_
      obtain rfl := oi h607
      have h608 := joinX_inr h584
      refine PJ.cutXr (fun e => nomatch e) ?_
      obtain rfl := oi h608
      refine PJ.loopOut (fun e => nomatch e) (fun he610 => ?_)
      have h609 := congrArg some he610
      refine PJ.blockOut ?_
      obtain rfl := oi h609
      exact kN [0, 4, 5]
   ·subst hs
    have h585 := joinX_inl h584
    refine K.block 3 (by kernel_rfl) ?_
    refine kR ?_
    refine kC 3 [0,1,4,5] ?_
    refine kE ?_
    refine PJ.blockNormal ?_
    obtain rfl := oi h585
    exact PJ.loopNext [0, 1, 4, 5] (by kernel_rfl) (by kernel_rfl)
  ·refine kS ?_
   refine J.keep [0, 4, 5] (L2 := [(0, .ptr 0 0), (4, .str ([] : List UInt8)), (5, .int .i64 s438)]) (by kernel_rfl) ?_
   refine K.draw (by kernel_rfl) (by kernel_rfl) (by kernel_rfl) (H2 := [.box [.str x0, .int .i64 s133]]) (by kernel_rfl) (n := 1) (by kernel_rfl) ?_
   refine kD 9 ?_
   obtain ⟨hm, h611⟩ := asrt h442
   refine RJ.rel (d := (some 67)) (ef := ⟨.str (cut x0 s133 s438), [], []⟩) (ef' := ⟨.str (cut x0 s133 s438), [], []⟩) (c := inS s133 s438 x0.length) (tr2 := [([], []), ([], []), ([], []), ([0, 1], []), ([], []), ([], []), ([], []), ([0, 1], []), ([], []), ([], [])]) (H2 := [.box [.str x0, .int .i64 s133]]) (by kernel_rfl) hm (fun hc => rfl) (by kernel_rfl) ?_
   refine kD 1 ?_
   refine kEN ?_
   refine kX ?_
   obtain rfl := oi h611
   exact K.retV (H0 := [.box [.str x0, .int .i64 x1]]) [0] (.inr rfl) hFn hFH hFD (by kernel_rfl) (v1 := .str (cut x0 s133 s438)) (by kernel_rfl) (by kernel_rfl) (by kernel_rfl) (by decide) (by kernel_rfl) (by kernel_rfl) (by kernel_rfl) (by kernel_rfl) (by kernel_rfl)
def stringslite_HasPrefix (x0 : List UInt8) (x1 : List UInt8) : Option (Bool) :=
 (Option.bind (bif (decide ((x0.length : Int) ≥ (x1.length : Int))) then (bif inS 0 (x1.length : Int) x0.length then (some (((cut x0 0 (x1.length : Int)) == x1))) else none) else (some false)) fun (s5 : Bool) => (some s5))
theorem stringslite_HasPrefix_ok {x0 : List UInt8} {x1 : List UInt8} {r : Bool} (h : stringslite_HasPrefix x0 x1 = some r) : SC Tryz.prog 95 [.str x0, .str x1] [] (.bool r) [] := by
 refine kFn (fn := Tryz.f95) (fun F hFn hFH hFD => ?_)
 unfold stringslite_HasPrefix at h
 refine kSR ?_
 refine kC 1 [0,1,4] ?_
 refine kEN ?_
 obtain ⟨s5, hy7, h9⟩ := bindS h
 refine K.cutN (by kernel_rfl) (fun (s5 : Bool) => ([(4, .bool s5)], [])) s5 ?_ ?_
 ·refine kR ?_
  refine kC 6 [0,1,4,10] ?_
  refine RJ.caseB 10 (b := (decide ((x0.length : Int) ≥ (x1.length : Int)))) (by kernel_rfl) (fun hb10 => ?_) (fun hb10 => ?_)
  ·have h11 := condT hb10 hy7
   refine kC 3 [1,4,10,11,13] ?_
   obtain ⟨hm, h13⟩ := asrt h11
   refine RJ.rel (d := (some 14)) (ef := ⟨.str (cut x0 0 (x1.length : Int)), [], []⟩) (ef' := ⟨.str (cut x0 0 (x1.length : Int)), [], []⟩) (c := inS 0 (x1.length : Int) x0.length) (tr2 := []) (H2 := []) (by kernel_rfl) hm (fun hc => rfl) (by kernel_rfl) ?_
   refine RJ.seg 4 [4] (L2 := [(4, .bool (((cut x0 0 (x1.length : Int)) == x1)))]) (H2 := []) (by kernel_rfl) ?_
   refine kE ?_
   obtain rfl := oi h13
   exact kN [4]
  ·have h12 := condF hb10 hy7
   refine kC 8 [4] ?_
   refine kE ?_
   obtain rfl := oi h12
   exact kN [4]
 ·refine kX ?_
  obtain rfl := oi h9
  exact kZ hFn hFH hFD
def strings_HasPrefix (x0 : List UInt8) (x1 : List UInt8) : Option (Bool) :=
 (Option.bind (stringslite_HasPrefix x0 x1) fun y1 => (some y1))
theorem strings_HasPrefix_ok {x0 : List UInt8} {x1 : List UInt8} {r : Bool} (h : strings_HasPrefix x0 x1 = some r) : SC Tryz.prog 86 [.str x0, .str x1] [] (.bool r) [] := by
 refine kFn (fn := Tryz.f86) (fun F hFn hFH hFD => ?_)
 unfold strings_HasPrefix at h
 refine kSR ?_
 refine kC 1 [0,1,4] ?_
 refine kEN ?_
 refine kSR ?_
 refine kC 2 [4,5,6] ?_
 obtain ⟨y1, hy2, h3⟩ := bindS h
 refine RJ.call0 (d := (some 7)) (f := 95) (args := [.str x0, .str x1]) (v := .bool y1) (tr2 := []) (by kernel_rfl) (by kernel_rfl) (.cons (Le.refl _) (.cons (Le.refl _) .nil)) (stringslite_HasPrefix_ok hy2) (by kernel_rfl) ?_
 refine kC 1 [4] ?_
 refine kEN ?_
 refine kX ?_
 obtain rfl := oi h3
 exact kZ hFn hFH hFD
def rule_reader__eat_s0 (x0 : List UInt8) (x1 : List UInt8) (x2 : Int) : Option (Bool × Int) :=
 (Option.bind (rule_reader__run_s1 x1 x2) fun y1 => (bif inS y1.2 (x1.length : Int) x1.length then (Option.bind (strings_HasPrefix (cut x1 y1.2 (x1.length : Int)) x0) fun y5 => (bif (!y5) then (some (false, y1.2)) else (some (true, (IntKind.wrap .i64 (y1.2 + (x0.length : Int))))))) else none))
theorem rule_reader__eat_s0_ok {x0 : List UInt8} {x1 : List UInt8} {x2 : Int} {r : Bool × Int} (h : rule_reader__eat_s0 x0 x1 x2 = some r) : SC Tryz.prog 76 [.ptr 0 0, .str x0] [.box [.str x1, .int .i64 x2]] (.bool r.1) [.box [.str x1, .int .i64 r.2]] := by
 refine kFn (fn := Tryz.f76) (fun F hFn hFH hFD => ?_)
 unfold rule_reader__eat_s0 at h
 refine kSR ?_
 refine kC 1 [0,1,4] ?_
 refine kEN ?_
 refine kSR ?_
 refine kC 1 [0,1,4,5] ?_
 obtain ⟨y1, hy2, h3⟩ := bindS h
 refine RJ.callG (d := (some 6)) (f := 62) (args := [.ptr 0 0, .fn (.func 85) [] []]) (args0 := [.ptr 0 0, .fn (.func 85) [] []]) (v0 := .str y1.1) (v := .str y1.1) (tr2 := []) (H0 := [.box [.str x1, .int .i64 x2]]) (H0' := [.box [.str x1, .int .i64 y1.2]]) (H2 := [.box [.str x1, .int .i64 y1.2]]) [0] (by kernel_rfl) (by kernel_rfl) (by kernel_rfl) (by kernel_rfl) (by decide) (by kernel_rfl) (by kernel_rfl) (by kernel_rfl) (.cons (Le.refl _) (.cons (Le.refl _) .nil)) (rule_reader__run_s1_ok hy2) (by kernel_rfl) (by kernel_rfl) (by kernel_rfl) ?_
 refine kEN ?_
 refine kS ?_
 refine kS ?_
 refine J.keep [0, 1, 4] (L2 := [(0, .ptr 0 0), (1, .str x0), (4, .bool false)]) (by kernel_rfl) ?_
 refine K.draw (by kernel_rfl) (by kernel_rfl) (by kernel_rfl) (H2 := [.box [.str x1, .int .i64 y1.2], .res]) (by kernel_rfl) (n := 1) (by kernel_rfl) ?_
 refine kD 8 ?_
 obtain ⟨hm, h4⟩ := asrt h3
 refine RJ.rel (d := (some 15)) (ef := ⟨.str (cut x1 y1.2 (x1.length : Int)), [], []⟩) (ef' := ⟨.str (cut x1 y1.2 (x1.length : Int)), [], []⟩) (c := inS y1.2 (x1.length : Int) x1.length) (tr2 := [([], []), ([], []), ([], []), ([0, 1], []), ([], []), ([], []), ([], []), ([0, 1], []), ([], [])]) (H2 := [.box [.str x1, .int .i64 y1.2], .res]) (by kernel_rfl) hm (fun hc => rfl) (by kernel_rfl) ?_
 refine RJ.segD 1 (tr2 := [([], []), ([], []), ([], []), ([0, 1], []), ([], []), ([], []), ([], []), ([0, 1], []), ([], []), ([], [])]) (L2 := [(16, .str x0), (15, .str (cut x1 y1.2 (x1.length : Int))), (14, .int .i64 y1.2), (13, .ptr 0 1), (12, .ptr 0 0), (11, .ptr 0 0), (10, .str x1), (9, .ptr 0 0), (8, .ptr 0 0), (7, .ptr 0 0), (0, .ptr 0 0), (1, .str x0), (4, .bool false)]) (H2 := [.box [.str x1, .int .i64 y1.2], .res]) (by kernel_rfl) ?_
 obtain ⟨y5, hy6, h7⟩ := bindS h4
 refine RJ.call0 (d := (some 17)) (f := 86) (args := [.str (cut x1 y1.2 (x1.length : Int)), .str x0]) (v := .bool y5) (tr2 := [([], []), ([], []), ([], []), ([0, 1], []), ([], []), ([], []), ([], []), ([0, 1], []), ([], []), ([], []), ([], [2, 3])]) (by kernel_rfl) (by kernel_rfl) (.cons (Le.refl _) (.cons (Le.refl _) .nil)) (strings_HasPrefix_ok hy6) (by kernel_rfl) ?_
 refine kD 1 ?_
 refine kEN ?_
 refine J.caseB 18 (b := (!y5)) (by kernel_rfl) (fun hb8 => ?_) (fun hb8 => ?_)
 ·have h9 := condT hb8 h7
  refine kT ?_
  refine kSR ?_
  refine kC 1 [0,1,4] ?_
  refine kEN ?_
  refine kX ?_
  refine PJ.passRet ?_
  obtain rfl := oi h9
  exact K.retV (H0 := [.box [.str x1, .int .i64 x2]]) [0] (.inr rfl) hFn hFH hFD (by kernel_rfl) (v1 := .bool false) (by kernel_rfl) (by kernel_rfl) (by kernel_rfl) (by decide) (by kernel_rfl) (by kernel_rfl) (by kernel_rfl) (by kernel_rfl) (by kernel_rfl)
 ·have h10 := condF hb8 h7
  refine kF ?_
  refine kK ?_
  refine PJ.next ?_
  refine kSR ?_
  refine kC 10 [4] ?_
  refine kEN ?_
  refine kSR ?_
  refine kC 1 [4] ?_
  refine kEN ?_
  refine kX ?_
  obtain rfl := oi h10
  exact K.retV (H0 := [.box [.str x1, .int .i64 x2]]) [0] (.inr rfl) hFn hFH hFD (by kernel_rfl) (v1 := .bool true) (by kernel_rfl) (by kernel_rfl) (by kernel_rfl) (by decide) (by kernel_rfl) (by kernel_rfl) (by kernel_rfl) (by kernel_rfl) (by kernel_rfl)
def rule_reader__number_1 (x0 : Int) : Option (Bool) :=
 (Option.bind (bif (decide (48 ≤ x0)) then (some (decide (x0 ≤ 57))) else (some false)) fun (s4 : Bool) => (some s4))
theorem rule_reader__number_1_ok {x0 : Int} {r : Bool} (h : rule_reader__number_1 x0 = some r) : SC Tryz.prog 87 [.int .u8 x0] [] (.bool r) [] := by
 refine kFn (fn := Tryz.f87) (fun F hFn hFH hFD => ?_)
 unfold rule_reader__number_1 at h
 refine kSR ?_
 refine kC 1 [0,2] ?_
 refine kEN ?_
 obtain ⟨s4, hy6, h8⟩ := bindS h
 refine K.cutN (by kernel_rfl) (fun (s4 : Bool) => ([(2, .bool s4)], [])) s4 ?_ ?_
 ·refine kR ?_
  refine kC 3 [0,2,5] ?_
  refine RJ.caseB 5 (b := (decide (48 ≤ x0))) (by kernel_rfl) (fun hb9 => ?_) (fun hb9 => ?_)
  ·have h10 := condT hb9 hy6
   refine kC 4 [2] ?_
   refine kE ?_
   obtain rfl := oi h10
   exact kN [2]
  ·have h11 := condF hb9 hy6
   refine kC 4 [2] ?_
   refine kE ?_
   obtain rfl := oi h11
   exact kN [2]
 ·refine kX ?_
  obtain rfl := oi h8
  exact kZ hFn hFH hFD
def rule_reader__run_s2 (x0 : List UInt8) (x1 : Int) : Option ((List UInt8) × Int) :=
 (Option.bind (loopN (fun (s138 : Int) => (Option.bind (Option.bind (bif (decide (s138 < (x0.length : Int))) then (bif inR s138 x0.length then (some ((decide (((((x0.getD (s138 : Int).toNat 0).toNat : Nat) : Int)) = 32)))) else none) else (some false)) fun (s255 : Bool) => (bif s255 then (some (.inl ())) else (some (.inr (.inr s138))))) (joinX fun (s246 : Unit) => (some (.inl (IntKind.wrap .i64 (s138 + 1))))))) big x1) fun (s133 : Int) => (Option.bind (loopN (fun (s443 : Int) => (Option.bind (Option.bind (bif (decide (s443 < (x0.length : Int))) then (bif inR s443 x0.length then (Option.bind (rule_reader__number_1 ((((x0.getD (s443 : Int).toNat 0).toNat : Nat) : Int))) fun y602 => (some y602)) else none) else (some false)) fun (s593 : Bool) => (bif s593 then (some (.inl ())) else (some (.inr (.inr s443))))) (joinX fun (s581 : Unit) => (some (.inl (IntKind.wrap .i64 (s443 + 1))))))) big s133) fun (s438 : Int) => (bif inS s133 s438 x0.length then (some ((cut x0 s133 s438), s133)) else none)))
theorem rule_reader__run_s2_ok {x0 : List UInt8} {x1 : Int} {r : (List UInt8) × Int} (h : rule_reader__run_s2 x0 x1 = some r) : SC Tryz.prog 62 [.ptr 0 0, .fn (.func 87) [] []] [.box [.str x0, .int .i64 x1]] (.str r.1) [.box [.str x0, .int .i64 r.2]] := by
 refine kFn (fn := Tryz.f62) (fun F hFn hFH hFD => ?_)
 unfold rule_reader__run_s2 at h
 refine kSR ?_
 refine kC 1 [0,1,4] ?_
 refine kEN ?_
 obtain ⟨s133, hy135, h137⟩ := bindS h
 refine K.cutN (by kernel_rfl) (fun (s133 : Int) => ([(0, .ptr 0 0), (1, .fn (.func 87) [] []), (4, .str ([] : List UInt8))], [.box [.str x0, .int .i64 s133]])) s133 ?_ ?_
 ·refine K.block 0 (by kernel_rfl) ?_
  refine K.loop (by kernel_rfl) (fun (s138 : Int) => ([(0, .ptr 0 0), (1, .fn (.func 87) [] []), (4, .str ([] : List UInt8))], [.box [.str x0, .int .i64 s138]])) hy135 [0, 1, 4] (by kernel_rfl) (by kernel_rfl) (fun s138 x226 hs225 => ?_)
  obtain ⟨y247, hy248, h249⟩ := bindS hs225
  refine K.cutX (by kernel_rfl) (fun (s246 : Unit) => ([(0, .ptr 0 0), (1, .fn (.func 87) [] []), (4, .str ([] : List UInt8))], [.box [.str x0, .int .i64 s138]])) y247 ?_ (fun s246 hs => ?_)
  ·obtain ⟨s255, hy257, h259⟩ := bindS hy248
   refine K.cutN (by kernel_rfl) (fun (s255 : Bool) => ([(0, .ptr 0 0), (1, .fn (.func 87) [] []), (4, .str ([] : List UInt8)), (27, .bool s255)], [.box [.str x0, .int .i64 s138]])) s255 ?_ ?_
   ·refine J.keep [0, 1, 4] (L2 := [(0, .ptr 0 0), (1, .fn (.func 87) [] []), (4, .str ([] : List UInt8))]) (by kernel_rfl) ?_
    refine K.draw (by kernel_rfl) (by kernel_rfl) (by kernel_rfl) (H2 := [.box [.str x0, .int .i64 s138]]) (by kernel_rfl) (n := 1) (by kernel_rfl) ?_
    refine kD 11 ?_
    refine RJ.caseB 16 (b := (decide (s138 < (x0.length : Int)))) (by kernel_rfl) (fun hb260 => ?_) (fun hb260 => ?_)
    ·have h261 := condT hb260 hy257
     refine kD 8 ?_
     obtain ⟨hm, h263⟩ := asrt h261
     refine RJ.rel (d := (some 25)) (ef := ⟨.int .u8 (((x0.getD (s138 : Int).toNat 0).toNat : Nat) : Int), [], []⟩) (ef' := ⟨.int .u8 (((x0.getD (s138 : Int).toNat 0).toNat : Nat) : Int), [], []⟩) (c := inR s138 x0.length) (tr2 := [([], []), ([], []), ([], []), ([0, 1], []), ([], []), ([], []), ([], []), ([0, 1], []), ([], []), ([], []), ([], []), ([], []), ([], []), ([], []), ([0, 1], []), ([], []), ([], []), ([], []), ([0, 1], []), ([], [])]) (H2 := [.box [.str x0, .int .i64 s138]]) (by kernel_rfl) hm (fun hc => rfl) (by kernel_rfl) ?_
     refine kD 2 ?_
     refine kE ?_
     obtain rfl := oi h263
     exact kN [0, 1, 4, 27]
    ·have h262 := condF hb260 hy257
     refine kD 11 ?_
     refine kE ?_
     obtain rfl := oi h262
     exact kN [0, 1, 4, 27]
   ·refine J.caseB 27 (b := s255) (by kernel_rfl) (fun hb264 => ?_) (fun hb264 => ?_)
    ·have h265 := condT hb264 h259
     refine kT ?_
     refine kK ?_
     obtain rfl := oi h265
     exact PJ.cutXl [0, 1, 4] (by kernel_rfl) (by kernel_rfl)
    ·have h266 := condF hb264 h259
     refine kF ?_
     refine K.exit 0 (by kernel_rfl) ?_
     obtain rfl := oi h266
     have h267 := joinX_inr h249
     refine PJ.cutXr (fun e => nomatch e) ?_
     obtain rfl := oi h267
     refine PJ.loopOut (fun e => nomatch e) (fun he269 => ?_)
     have h268 := congrArg some he269
     refine PJ.blockOut ?_
     obtain rfl := oi h268
     exact kN [0, 1, 4]
  ·subst hs
   have h250 := joinX_inl h249
   refine K.block 1 (by kernel_rfl) ?_
   refine kR ?_
   refine kC 8 [0,1,4] ?_
   refine kE ?_
   refine PJ.blockNormal ?_
   obtain rfl := oi h250
   exact PJ.loopNext [0, 1, 4] (by kernel_rfl) (by kernel_rfl)
 ·refine kSR ?_
  refine kC 5 [0,1,4,5] ?_
  refine kEN ?_
  obtain ⟨s438, hy440, h442⟩ := bindS h137
  refine K.cutN (by kernel_rfl) (fun (s438 : Int) => ([(0, .ptr 0 0), (4, .str ([] : List UInt8)), (5, .int .i64 s438)], [.box [.str x0, .int .i64 s133]])) s438 ?_ ?_
  ·refine K.block 2 (by kernel_rfl) ?_
   refine K.loop (by kernel_rfl) (fun (s443 : Int) => ([(0, .ptr 0 0), (1, .fn (.func 87) [] []), (4, .str ([] : List UInt8)), (5, .int .i64 s443)], [.box [.str x0, .int .i64 s133]])) hy440 [0, 1, 4, 5] (by kernel_rfl) (by kernel_rfl) (fun s443 x555 hs554 => ?_)
   obtain ⟨y582, hy583, h584⟩ := bindS hs554
   refine K.cutX (by kernel_rfl) (fun (s581 : Unit) => ([(0, .ptr 0 0), (1, .fn (.func 87) [] []), (4, .str ([] : List UInt8)), (5, .int .i64 s443)], [.box [.str x0, .int .i64 s133]])) y582 ?_ (fun s581 hs => ?_)
   ·obtain ⟨s593, hy595, h597⟩ := bindS hy583
    refine K.cutN (by kernel_rfl) (fun (s593 : Bool) => ([(0, .ptr 0 0), (1, .fn (.func 87) [] []), (4, .str ([] : List UInt8)), (5, .int .i64 s443), (55, .bool s593)], [.box [.str x0, .int .i64 s133]])) s593 ?_ ?_
    ·refine kR ?_
     refine kC 8 [0,1,4,5,46] ?_
     refine RJ.caseB 46 (b := (decide (s443 < (x0.length : Int)))) (by kernel_rfl) (fun hb598 => ?_) (fun hb598 => ?_)
     ·have h599 := condT hb598 hy595
      refine kC 6 [0,1,4,5,46,47,51,52] ?_
      obtain ⟨hm, h601⟩ := asrt h599
      refine RJ.rel (d := (some 53)) (ef := ⟨.int .u8 (((x0.getD (s443 : Int).toNat 0).toNat : Nat) : Int), [], []⟩) (ef' := ⟨.int .u8 (((x0.getD (s443 : Int).toNat 0).toNat : Nat) : Int), [], []⟩) (c := inR s443 x0.length) (tr2 := []) (H2 := [.box [.str x0, .int .i64 s133]]) (by kernel_rfl) hm (fun hc => rfl) (by kernel_rfl) ?_
      obtain ⟨y602, hy603, h604⟩ := bindS h601
      refine RJ.call0 (d := (some 54)) (f := 87) (args := [.int .u8 ((((x0.getD (s443 : Int).toNat 0).toNat : Nat) : Int))]) (v := .bool y602) (tr2 := []) (by kernel_rfl) (by kernel_rfl) (.cons (Le.refl _) .nil) (rule_reader__number_1_ok hy603) (by kernel_rfl) ?_
      refine kC 1 [0,1,4,5,55] ?_
      refine kE ?_
      obtain rfl := oi h604
      exact kN [0, 1, 4, 5, 55]
     ·have h600 := condF hb598 hy595
      refine kC 9 [0,1,4,5,55] ?_
      refine kE ?_
      obtain rfl := oi h600
      exact kN [0, 1, 4, 5, 55]
    ·refine J.caseB 55 (b := s593) (by kernel_rfl) (fun hb605 => ?_) (fun hb605 => ?_)
     ·have h606 := condT hb605 h597
      refine kT ?_
      refine kK ?_
      obtain rfl := oi h606
      exact PJ.cutXl [0, 1, 4, 5] (by kernel_rfl) (by kernel_rfl)
     ·have h607 := condF hb605 h597
      refine kF ?_
      refine K.exit 2 (by kernel_rfl) ?_
      obtain rfl := oi h607
      have h608 := joinX_inr h584
      refine PJ.cutXr (fun e => nomatch e) ?_
      obtain rfl := oi h608
      refine PJ.loopOut (fun e => nomatch e) (fun he610 => ?_)
      have h609 := congrArg some he610
      refine PJ.blockOut ?_
      obtain rfl := oi h609
      exact kN [0, 4, 5]
   ·subst hs
    have h585 := joinX_inl h584
    refine K.block 3 (by kernel_rfl) ?_
    refine kR ?_
    refine kC 3 [0,1,4,5] ?_
    refine kE ?_
    refine PJ.blockNormal ?_
    obtain rfl := oi h585
    exact PJ.loopNext [0, 1, 4, 5] (by kernel_rfl) (by kernel_rfl)
  ·refine kS ?_
   refine J.keep [0, 4, 5] (L2 := [(0, .ptr 0 0), (4, .str ([] : List UInt8)), (5, .int .i64 s438)]) (by kernel_rfl) ?_
   refine K.draw (by kernel_rfl) (by kernel_rfl) (by kernel_rfl) (H2 := [.box [.str x0, .int .i64 s133]]) (by kernel_rfl) (n := 1) (by kernel_rfl) ?_
   refine kD 9 ?_
   obtain ⟨hm, h611⟩ := asrt h442
   refine RJ.rel (d := (some 67)) (ef := ⟨.str (cut x0 s133 s438), [], []⟩) (ef' := ⟨.str (cut x0 s133 s438), [], []⟩) (c := inS s133 s438 x0.length) (tr2 := [([], []), ([], []), ([], []), ([0, 1], []), ([], []), ([], []), ([], []), ([0, 1], []), ([], []), ([], [])]) (H2 := [.box [.str x0, .int .i64 s133]]) (by kernel_rfl) hm (fun hc => rfl) (by kernel_rfl) ?_
   refine kD 1 ?_
   refine kEN ?_
   refine kX ?_
   obtain rfl := oi h611
   exact K.retV (H0 := [.box [.str x0, .int .i64 x1]]) [0] (.inr rfl) hFn hFH hFD (by kernel_rfl) (v1 := .str (cut x0 s133 s438)) (by kernel_rfl) (by kernel_rfl) (by kernel_rfl) (by decide) (by kernel_rfl) (by kernel_rfl) (by kernel_rfl) (by kernel_rfl) (by kernel_rfl)
def rule_reader__number_s0 (x0 : Int) (x1 : List UInt8) (x2 : Int) : Option (Int × Bool × Int) :=
 (Option.bind (rule_reader__run_s2 x1 x2) fun y1 => (Option.bind (Option.bind (bif (decide ((y1.1.length : Int) = 0)) then (some true) else (bif (decide ((y1.1.length : Int) > 9)) then (some true) else (bif (decide ((y1.1.length : Int) > 1)) then (bif inR 0 y1.1.length then (some ((decide (((((y1.1.getD (0 : Int).toNat 0).toNat : Nat) : Int)) = 48)))) else none) else (some false)))) fun (s48 : Bool) => (bif s48 then (some (.inr (0, false, y1.2))) else (some (.inl ())))) (joinX fun (s33 : Unit) => (Option.bind (loopN (fun (s93 : Int × Int) => (bif (decide (s93.2 < ((bytesI y1.1).length : Int))) then (bif inR s93.2 (bytesI y1.1).length then (some (.inl ((IntKind.wrap .i64 ((IntKind.wrap .i64 (s93.1 * 10)) + ((IntKind.wrap .i64 ((IntKind.wrap .u8 ((nth (bytesI y1.1) s93.2) - 48))))))), (IntKind.wrap .i64 (s93.2 + 1))))) else none) else (some (.inr s93.1)))) big (0, 0)) fun (s88 : Int) => (bif (decide (s88 < x0)) then (some (0, false, y1.2)) else (some (s88, true, (IntKind.wrap .i64 (y1.2 + (y1.1.length : Int))))))))))
theorem rule_reader__number_s0_ok {x0 : Int} {x1 : List UInt8} {x2 : Int} {r : Int × Bool × Int} (h : rule_reader__number_s0 x0 x1 x2 = some r) : SC Tryz.prog 77 [.ptr 0 0, .int .i64 x0] [.box [.str x1, .int .i64 x2]] (.tup [.int .i64 r.1, .bool r.2.1]) [.box [.str x1, .int .i64 r.2.2]] := by
 refine kFn (fn := Tryz.f77) (fun F hFn hFH hFD => ?_)
 unfold rule_reader__number_s0 at h
 refine kSR ?_
 refine kC 2 [0,1,4,5] ?_
 refine kEN ?_
 refine kSR ?_
 refine kC 1 [0,1,4,5,10] ?_
 obtain ⟨y1, hy2, h3⟩ := bindS h
 refine RJ.callG (d := (some 11)) (f := 62) (args := [.ptr 0 0, .fn (.func 87) [] []]) (args0 := [.ptr 0 0, .fn (.func 87) [] []]) (v0 := .str y1.1) (v := .str y1.1) (tr2 := []) (H0 := [.box [.str x1, .int .i64 x2]]) (H0' := [.box [.str x1, .int .i64 y1.2]]) (H2 := [.box [.str x1, .int .i64 y1.2]]) [0] (by kernel_rfl) (by kernel_rfl) (by kernel_rfl) (by kernel_rfl) (by decide) (by kernel_rfl) (by kernel_rfl) (by kernel_rfl) (.cons (Le.refl _) (.cons (Le.refl _) .nil)) (rule_reader__run_s2_ok hy2) (by kernel_rfl) (by kernel_rfl) (by kernel_rfl) ?_
 refine kC 1 [0,1,4,5,6] ?_
 refine kEN ?_
 obtain ⟨y34, hy35, h36⟩ := bindS h3
 refine K.cutX (by kernel_rfl) (fun (s33 : Unit) => ([(0, .ptr 0 0), (1, .int .i64 x0), (4, .int .i64 0), (5, .bool false), (6, .str y1.1)], [.box [.str x1, .int .i64 y1.2]])) y34 ?_ (fun s33 hs => ?_)
 ·obtain ⟨s48, hy50, h52⟩ := bindS hy35
  refine K.cutN (by kernel_rfl) (fun (s48 : Bool) => ([(0, .ptr 0 0), (1, .int .i64 x0), (4, .int .i64 0), (5, .bool false), (6, .str y1.1), (29, .bool s48)], [.box [.str x1, .int .i64 y1.2]])) s48 ?_ ?_
  ·refine kR ?_
   refine RJ.seg 4 [0, 1, 4, 5, 6, 15] (L2 := [(0, .ptr 0 0), (1, .int .i64 x0), (4, .int .i64 0), (5, .bool false), (6, .str y1.1), (15, .bool ((decide ((y1.1.length : Int) = 0))))]) (H2 := [.box [.str x1, .int .i64 y1.2]]) (by kernel_rfl) ?_
   refine RJ.caseB 15 (b := (decide ((y1.1.length : Int) = 0))) (by kernel_rfl) (fun hb53 => ?_) (fun hb53 => ?_)
   ·have h54 := condT hb53 hy50
    refine kC 14 [0,1,4,5,6,29] ?_
    refine kE ?_
    obtain rfl := oi h54
    exact kN [0, 1, 4, 5, 6, 29]
   ·have h55 := condF hb53 hy50
    refine kC 5 [0,1,4,5,6,20] ?_
    refine RJ.caseB 20 (b := (decide ((y1.1.length : Int) > 9))) (by kernel_rfl) (fun hb56 => ?_) (fun hb56 => ?_)
    ·have h57 := condT hb56 h55
     refine kC 9 [0,1,4,5,6,29] ?_
     refine kE ?_
     obtain rfl := oi h57
     exact kN [0, 1, 4, 5, 6, 29]
    ·have h58 := condF hb56 h55
     refine kC 4 [0,1,4,5,6,20,24] ?_
     refine RJ.caseB 24 (b := (decide ((y1.1.length : Int) > 1))) (by kernel_rfl) (fun hb59 => ?_) (fun hb59 => ?_)
     ·have h60 := condT hb59 h58
      refine kC 1 [0,1,4,5,6,20,24,25] ?_
      obtain ⟨hm, h62⟩ := asrt h60
      refine RJ.rel (d := (some 26)) (ef := ⟨.int .u8 (((y1.1.getD (0 : Int).toNat 0).toNat : Nat) : Int), [], []⟩) (ef' := ⟨.int .u8 (((y1.1.getD (0 : Int).toNat 0).toNat : Nat) : Int), [], []⟩) (c := inR 0 y1.1.length) (tr2 := []) (H2 := [.box [.str x1, .int .i64 y1.2]]) (by kernel_rfl) hm (fun hc => rfl) (by kernel_rfl) ?_
      refine RJ.seg 3 [0, 1, 4, 5, 6, 29] (L2 := [(0, .ptr 0 0), (1, .int .i64 x0), (4, .int .i64 0), (5, .bool false), (6, .str y1.1), (29, .bool ((decide (((((y1.1.getD (0 : Int).toNat 0).toNat : Nat) : Int)) = 48))))]) (H2 := [.box [.str x1, .int .i64 y1.2]]) (by kernel_rfl) ?_
      refine kE ?_
      obtain rfl := oi h62
      exact kN [0, 1, 4, 5, 6, 29]
     ·have h61 := condF hb59 h58
      refine kC 5 [0,1,4,5,6,29] ?_
      refine kE ?_
      obtain rfl := oi h61
      exact kN [0, 1, 4, 5, 6, 29]
  ·refine J.caseB 29 (b := s48) (by kernel_rfl) (fun hb63 => ?_) (fun hb63 => ?_)
   ·have h64 := condT hb63 h52
    refine kT ?_
    refine kSR ?_
    refine kC 2 [0,1,4,5,6] ?_
    refine kEN ?_
    refine kX ?_
    obtain rfl := oi h64
    have h66 := joinX_inr h36
    refine PJ.cutXr (fun e => nomatch e) ?_
    obtain rfl := oi h66
    exact K.retV (H0 := [.box [.str x1, .int .i64 x2]]) [0] (.inr rfl) hFn hFH hFD (by kernel_rfl) (v1 := .tup [.int .i64 0, .bool false]) (by kernel_rfl) (by kernel_rfl) (by kernel_rfl) (by decide) (by kernel_rfl) (by kernel_rfl) (by kernel_rfl) (by kernel_rfl) (by kernel_rfl)
   ·have h65 := condF hb63 h52
    refine kF ?_
    refine kK ?_
    obtain rfl := oi h65
    exact PJ.cutXl [0, 1, 4, 5, 6] (by kernel_rfl) (by kernel_rfl)
 ·subst hs
  have h37 := joinX_inl h36
  refine kSR ?_
  refine kC 1 [0,1,4,5,6,7] ?_
  refine kEN ?_
  obtain ⟨s88, hy90, h92⟩ := bindS h37
  refine K.cutN (by kernel_rfl) (fun (s88 : Int) => ([(0, .ptr 0 0), (1, .int .i64 x0), (4, .int .i64 0), (5, .bool false), (6, .str y1.1), (7, .int .i64 s88)], [.box [.str x1, .int .i64 y1.2]])) s88 ?_ ?_
  ·refine kSR ?_
   refine kC 1 [0,1,4,5,6,7,30] ?_
   refine RJ.rel (d := (some 31)) (ef := ⟨.lst y1.1.length 1 (y1.1.map byteSV), [], []⟩) (ef' := ⟨lsv (encI .u8) 1 (bytesI y1.1), [], []⟩) (c := true) (tr2 := []) (H2 := [.box [.str x1, .int .i64 y1.2]]) (by kernel_rfl) rfl (fun hc => N.toBytes) (by kernel_rfl) ?_
   refine kC 2 [0,1,4,5,6,7,31,32,33] ?_
   refine kEN ?_
   refine K.block 0 (by kernel_rfl) ?_
   refine K.loop (by kernel_rfl) (fun (s93 : Int × Int) => ([(0, .ptr 0 0), (1, .int .i64 x0), (4, .int .i64 0), (5, .bool false), (6, .str y1.1), (7, .int .i64 s93.1), (31, lsv (encI .u8) 1 (bytesI y1.1)), (32, .int .i64 ((bytesI y1.1).length : Int)), (33, .int .i64 s93.2)], [.box [.str x1, .int .i64 y1.2]])) hy90 [0, 1, 4, 5, 6, 7, 31, 32, 33] (by kernel_rfl) (by kernel_rfl) (fun s93 x107 hs106 => ?_)
   refine kSR ?_
   refine kC 1 [0,1,4,5,6,7,31,32,33,34] ?_
   refine kEN ?_
   refine kS ?_
   refine J.caseB 34 (b := (decide (s93.2 < ((bytesI y1.1).length : Int)))) (by kernel_rfl) (fun hb108 => ?_) (fun hb108 => ?_)
   ·have h109 := condT hb108 hs106
    refine kT ?_
    refine kK ?_
    refine PJ.next ?_
    refine kS ?_
    refine K.block 1 (by kernel_rfl) ?_
    refine kSR ?_
    obtain ⟨hm, h111⟩ := asrt h109
    refine RJ.rel (d := (some 35)) (ef := ⟨.ep ((((bytesI y1.1).flatMap (encI .u8)).drop ((s93.2 : Int).toNat * 1)).take 1), [], []⟩) (ef' := ⟨.ep ((encI .u8) (nth (bytesI y1.1) s93.2)), [], []⟩) (c := inR s93.2 (bytesI y1.1).length) (tr2 := []) (H2 := [.box [.str x1, .int .i64 y1.2]]) (by kernel_rfl) hm (fun hc => N.idx (encI_len .u8) hc) (by kernel_rfl) ?_
    refine kC 2 [0,1,4,5,6,7,9,31,32,33] ?_
    refine kEN ?_
    refine kR ?_
    refine kC 7 [0,1,4,5,6,7,31,32,33] ?_
    refine kE ?_
    refine PJ.blockNormal ?_
    refine PJ.next ?_
    refine kR ?_
    refine RJ.seg 2 [0, 1, 4, 5, 6, 7, 31, 32, 33] (L2 := [(0, .ptr 0 0), (1, .int .i64 x0), (4, .int .i64 0), (5, .bool false), (6, .str y1.1), (7, .int .i64 ((IntKind.wrap .i64 ((IntKind.wrap .i64 (s93.1 * 10)) + ((IntKind.wrap .i64 ((IntKind.wrap .u8 ((nth (bytesI y1.1) s93.2) - 48))))))))), (31, lsv (encI .u8) 1 (bytesI y1.1)), (32, .int .i64 ((bytesI y1.1).length : Int)), (33, .int .i64 (IntKind.wrap .i64 (s93.2 + 1)))]) (H2 := [.box [.str x1, .int .i64 y1.2]]) (by kernel_rfl) ?_
    refine kE ?_
    obtain rfl := oi h111
    exact PJ.loopNext [0, 1, 4, 5, 6, 7, 31, 32, 33] (by kernel_rfl) (by kernel_rfl)
   ·have h110 := condF hb108 hs106
    refine kF ?_
    refine K.exit 0 (by kernel_rfl) ?_
    refine PJ.passExit ?_
    obtain rfl := oi h110
    refine PJ.loopOut (fun e => nomatch e) (fun he113 => ?_)
    have h112 := congrArg some he113
    refine PJ.blockOut ?_
    obtain rfl := oi h112
    exact kN [0, 1, 4, 5, 6, 7]
  ·refine kS ?_
   refine kSR ?_
   refine kC 3 [0,4,5,6,7,46] ?_
   refine kEN ?_
   refine J.caseB 46 (b := (decide (s88 < x0))) (by kernel_rfl) (fun hb114 => ?_) (fun hb114 => ?_)
   ·have h115 := condT hb114 h92
    refine kT ?_
    refine kSR ?_
    refine kC 2 [0,4,5,6,7] ?_
    refine kEN ?_
    refine kX ?_
    refine PJ.passRet ?_
    obtain rfl := oi h115
    exact K.retV (H0 := [.box [.str x1, .int .i64 x2]]) [0] (.inr rfl) hFn hFH hFD (by kernel_rfl) (v1 := .tup [.int .i64 0, .bool false]) (by kernel_rfl) (by kernel_rfl) (by kernel_rfl) (by decide) (by kernel_rfl) (by kernel_rfl) (by kernel_rfl) (by kernel_rfl) (by kernel_rfl)
   ·have h116 := condF hb114 h92
    refine kF ?_
    refine kK ?_
    refine PJ.next ?_
    refine kSR ?_
    refine kC 10 [4,5,7] ?_
    refine kEN ?_
    refine kSR ?_
    refine kC 3 [4,5] ?_
    refine kEN ?_
    refine kX ?_
    obtain rfl := oi h116
    exact K.retV (H0 := [.box [.str x1, .int .i64 x2]]) [0] (.inr rfl) hFn hFH hFD (by kernel_rfl) (v1 := .tup [.int .i64 s88, .bool true]) (by kernel_rfl) (by kernel_rfl) (by kernel_rfl) (by decide) (by kernel_rfl) (by kernel_rfl) (by kernel_rfl) (by kernel_rfl) (by kernel_rfl)
def rule_reader__mod_s0 (x0 : List UInt8) (x1 : Int) (x2 : Int) (x3 : Int) (x4 : Bool) : Option (Bool × Int × Int) :=
 (Option.bind (rule_reader__eat_s0 ([37] : List UInt8) x0 x1) fun y1 => (bif (!y1.1) then (some (true, y1.2, x3)) else (Option.bind (rule_reader__number_s0 1 x0 y1.2) fun y7 => (some (y7.2.1, y7.2.2, y7.1)))))
theorem rule_reader__mod_s0_ok {x0 : List UInt8} {x1 : Int} {x2 : Int} {x3 : Int} {x4 : Bool} {r : Bool × Int × Int} (h : rule_reader__mod_s0 x0 x1 x2 x3 x4 = some r) : SC Tryz.prog 59 [.ptr 0 0, .ptr 1 0] [.box [.str x0, .int .i64 x1], .box [.int .u8 x2, .int .i64 x3, .bool x4, .nl]] (.bool r.1) [.box [.str x0, .int .i64 r.2.1], .box [.int .u8 x2, .int .i64 r.2.2, .bool x4, .nl]] := by
 refine kFn (fn := Tryz.f59) (fun F hFn hFH hFD => ?_)
 unfold rule_reader__mod_s0 at h
 refine kSR ?_
 refine kC 1 [0,1,4] ?_
 refine kEN ?_
 refine kS ?_
 refine kSR ?_
 refine kC 1 [0,1,4,6] ?_
 obtain ⟨y1, hy2, h3⟩ := bindS h
 refine RJ.callG (d := (some 7)) (f := 76) (args := [.ptr 0 0, .str ([37] : List UInt8)]) (args0 := [.ptr 0 0, .str ([37] : List UInt8)]) (v0 := .bool y1.1) (v := .bool y1.1) (tr2 := []) (H0 := [.box [.str x0, .int .i64 x1]]) (H0' := [.box [.str x0, .int .i64 y1.2]]) (H2 := [.box [.str x0, .int .i64 y1.2], .box [.int .u8 x2, .int .i64 x3, .bool x4, .nl]]) [0] (by kernel_rfl) (by kernel_rfl) (by kernel_rfl) (by kernel_rfl) (by decide) (by kernel_rfl) (by kernel_rfl) (by kernel_rfl) (.cons (Le.refl _) (.cons (Le.refl _) .nil)) (rule_reader__eat_s0_ok hy2) (by kernel_rfl) (by kernel_rfl) (by kernel_rfl) ?_
 refine kC 1 [0,1,4,8] ?_
 refine kEN ?_
 refine J.caseB 8 (b := (!y1.1)) (by kernel_rfl) (fun hb4 => ?_) (fun hb4 => ?_)
 ·have h5 := condT hb4 h3
  refine kT ?_
  refine kSR ?_
  refine RJ.seg 1 [0, 1, 4] (L2 := [(0, .ptr 0 0), (1, .ptr 1 0), (4, .bool true)]) (H2 := [.box [.str x0, .int .i64 y1.2], .box [.int .u8 x2, .int .i64 x3, .bool x4, .nl]]) (by kernel_rfl) ?_
  refine kEN ?_
  refine kX ?_
  refine PJ.passRet ?_
  obtain rfl := oi h5
  exact K.retV (H0 := [.box [.str x0, .int .i64 x1], .box [.int .u8 x2, .int .i64 x3, .bool x4, .nl]]) [0, 1] (.inr rfl) hFn hFH hFD (by kernel_rfl) (v1 := .bool true) (by kernel_rfl) (by kernel_rfl) (by kernel_rfl) (by decide) (by kernel_rfl) (by kernel_rfl) (by kernel_rfl) (by kernel_rfl) (by kernel_rfl)
 ·have h6 := condF hb4 h3
  refine kF ?_
  refine kK ?_
  refine PJ.next ?_
  refine kSR ?_
  refine RJ.seg 1 [0, 1, 4, 5] (L2 := [(0, .ptr 0 0), (1, .ptr 1 0), (4, .bool false), (5, .bool false)]) (H2 := [.box [.str x0, .int .i64 y1.2], .box [.int .u8 x2, .int .i64 x3, .bool x4, .nl]]) (by kernel_rfl) ?_
  refine kEN ?_
  refine kSR ?_
  refine kC 2 [4,5,10,11] ?_
  obtain ⟨y7, hy8, h9⟩ := bindS h6
  refine RJ.callG (d := (some 12)) (f := 77) (args := [.ptr 0 0, .int .i64 1]) (args0 := [.ptr 0 0, .int .i64 1]) (v0 := .tup [.int .i64 y7.1, .bool y7.2.1]) (v := .tup [.int .i64 y7.1, .bool y7.2.1]) (tr2 := []) (H0 := [.box [.str x0, .int .i64 y1.2]]) (H0' := [.box [.str x0, .int .i64 y7.2.2]]) (H2 := [.box [.str x0, .int .i64 y7.2.2], .box [.int .u8 x2, .int .i64 x3, .bool x4, .nl]]) [0] (by kernel_rfl) (by kernel_rfl) (by kernel_rfl) (by kernel_rfl) (by decide) (by kernel_rfl) (by kernel_rfl) (by kernel_rfl) (.cons (Le.refl _) (.cons (Le.refl _) .nil)) (rule_reader__number_s0_ok hy8) (by kernel_rfl) (by kernel_rfl) (by kernel_rfl) ?_
  refine kC 7 [4,5] ?_
  refine kEN ?_
  refine kSR ?_
  refine kC 2 [4] ?_
  refine kEN ?_
  refine kX ?_
  obtain rfl := oi h9
  exact K.retV (H0 := [.box [.str x0, .int .i64 x1], .box [.int .u8 x2, .int .i64 x3, .bool x4, .nl]]) [0, 1] (.inr rfl) hFn hFH hFD (by kernel_rfl) (v1 := .bool y7.2.1) (by kernel_rfl) (by kernel_rfl) (by kernel_rfl) (by decide) (by kernel_rfl) (by kernel_rfl) (by kernel_rfl) (by kernel_rfl) (by kernel_rfl)
def rule_reader__sign_s0 (x0 : List UInt8) (x1 : Int) (x2 : Int) (x3 : Int) (x4 : Bool) : Option (Bool × Int × Bool) :=
 (Option.bind (rule_reader__eat_s0 ([61] : List UInt8) x0 x1) fun y1 => (bif y1.1 then (some (true, y1.2, x4)) else (Option.bind (rule_reader__eat_s0 ([33, 61] : List UInt8) x0 y1.2) fun y7 => (some (y7.1, y7.2, y7.1)))))
theorem rule_reader__sign_s0_ok {x0 : List UInt8} {x1 : Int} {x2 : Int} {x3 : Int} {x4 : Bool} {r : Bool × Int × Bool} (h : rule_reader__sign_s0 x0 x1 x2 x3 x4 = some r) : SC Tryz.prog 60 [.ptr 0 0, .ptr 1 0] [.box [.str x0, .int .i64 x1], .box [.int .u8 x2, .int .i64 x3, .bool x4, .nl]] (.bool r.1) [.box [.str x0, .int .i64 r.2.1], .box [.int .u8 x2, .int .i64 x3, .bool r.2.2, .nl]] := by
 refine kFn (fn := Tryz.f60) (fun F hFn hFH hFD => ?_)
 unfold rule_reader__sign_s0 at h
 refine kSR ?_
 refine kC 1 [0,1,4] ?_
 refine kEN ?_
 refine kS ?_
 refine kSR ?_
 refine kC 1 [0,1,4,5] ?_
 obtain ⟨y1, hy2, h3⟩ := bindS h
 refine RJ.callG (d := (some 6)) (f := 76) (args := [.ptr 0 0, .str ([61] : List UInt8)]) (args0 := [.ptr 0 0, .str ([61] : List UInt8)]) (v0 := .bool y1.1) (v := .bool y1.1) (tr2 := []) (H0 := [.box [.str x0, .int .i64 x1]]) (H0' := [.box [.str x0, .int .i64 y1.2]]) (H2 := [.box [.str x0, .int .i64 y1.2], .box [.int .u8 x2, .int .i64 x3, .bool x4, .nl]]) [0] (by kernel_rfl) (by kernel_rfl) (by kernel_rfl) (by kernel_rfl) (by decide) (by kernel_rfl) (by kernel_rfl) (by kernel_rfl) (.cons (Le.refl _) (.cons (Le.refl _) .nil)) (rule_reader__eat_s0_ok hy2) (by kernel_rfl) (by kernel_rfl) (by kernel_rfl) ?_
 refine kEN ?_
 refine J.caseB 6 (b := y1.1) (by kernel_rfl) (fun hb4 => ?_) (fun hb4 => ?_)
 ·have h5 := condT hb4 h3
  refine kT ?_
  refine kSR ?_
  refine kC 1 [0,1,4] ?_
  refine kEN ?_
  refine kX ?_
  refine PJ.passRet ?_
  obtain rfl := oi h5
  exact K.retV (H0 := [.box [.str x0, .int .i64 x1], .box [.int .u8 x2, .int .i64 x3, .bool x4, .nl]]) [0, 1] (.inr rfl) hFn hFH hFD (by kernel_rfl) (v1 := .bool true) (by kernel_rfl) (by kernel_rfl) (by kernel_rfl) (by decide) (by kernel_rfl) (by kernel_rfl) (by kernel_rfl) (by kernel_rfl) (by kernel_rfl)
 ·have h6 := condF hb4 h3
  refine kF ?_
  refine kK ?_
  refine PJ.next ?_
  refine kSR ?_
  refine kC 2 [1,4,7,8] ?_
  obtain ⟨y7, hy8, h9⟩ := bindS h6
  refine RJ.callG (d := (some 9)) (f := 76) (args := [.ptr 0 0, .str ([33, 61] : List UInt8)]) (args0 := [.ptr 0 0, .str ([33, 61] : List UInt8)]) (v0 := .bool y7.1) (v := .bool y7.1) (tr2 := []) (H0 := [.box [.str x0, .int .i64 y1.2]]) (H0' := [.box [.str x0, .int .i64 y7.2]]) (H2 := [.box [.str x0, .int .i64 y7.2], .box [.int .u8 x2, .int .i64 x3, .bool x4, .nl]]) [0] (by kernel_rfl) (by kernel_rfl) (by kernel_rfl) (by kernel_rfl) (by decide) (by kernel_rfl) (by kernel_rfl) (by kernel_rfl) (.cons (Le.refl _) (.cons (Le.refl _) .nil)) (rule_reader__eat_s0_ok hy8) (by kernel_rfl) (by kernel_rfl) (by kernel_rfl) ?_
  refine RJ.seg 3 [1, 4] (L2 := [(1, .ptr 1 0), (4, .bool false)]) (H2 := [.box [.str x0, .int .i64 y7.2], .box [.int .u8 x2, .int .i64 x3, .bool y7.1, .nl]]) (by kernel_rfl) ?_
  refine kEN ?_
  refine kSR ?_
  refine kC 5 [4] ?_
  refine kEN ?_
  refine kX ?_
  obtain rfl := oi h9
  exact K.retV (H0 := [.box [.str x0, .int .i64 x1], .box [.int .u8 x2, .int .i64 x3, .bool x4, .nl]]) [0, 1] (.inr rfl) hFn hFH hFD (by kernel_rfl) (v1 := .bool y7.1) (by kernel_rfl) (by kernel_rfl) (by kernel_rfl) (by decide) (by kernel_rfl) (by kernel_rfl) (by kernel_rfl) (by kernel_rfl) (by kernel_rfl)
def rule_reader__ranges_s0 (x0 : List UInt8) (x1 : Int) (x2 : Int) (x3 : Int) (x4 : Bool) : Option (Bool × Int × (List St41)) :=
 (loopN (fun (s1 : Int × (List St41)) => (Option.bind (rule_reader__number_s0 0 x0 s1.1) fun y140 => (Option.bind (Option.bind (bif y140.2.1 then (Option.bind (rule_reader__eat_s0 ([46, 46] : List UInt8) x0 y140.2.2) fun y185 => (some (y185.1, y185.2))) else (some (false, y140.2.2))) fun (s177 : Bool × Int) => (bif s177.1 then (Option.bind (rule_reader__number_s0 (IntKind.wrap .i64 (y140.1 + 1)) x0 s177.2) fun y191 => (some (y191.2.1, y191.1, y191.2.2))) else (some (y140.2.1, y140.1, s177.2)))) fun (s166 : Bool × Int × Int) => (bif (!s166.1) then (some (.inr (false, s166.2.2, s1.2))) else (bif room (s1.2.length + ([(⟨y140.1, s166.2.1⟩ : St41)] : List St41).length) then (Option.bind (rule_reader__eat_s0 ([44] : List UInt8) x0 s166.2.2) fun y200 => (bif (!y200.1) then (some (.inr (true, y200.2, (s1.2 ++ ([(⟨y140.1, s166.2.1⟩ : St41)] : List St41))))) else (some (.inl (y200.2, (s1.2 ++ ([(⟨y140.1, s166.2.1⟩ : St41)] : List St41))))))) else none))))) big (x1, ([] : List St41)))
theorem rule_reader__ranges_s0_ok {x0 : List UInt8} {x1 : Int} {x2 : Int} {x3 : Int} {x4 : Bool} {r : Bool × Int × (List St41)} (h : rule_reader__ranges_s0 x0 x1 x2 x3 x4 = some r) : SC Tryz.prog 61 [.ptr 0 0, .ptr 1 0] [.box [.str x0, .int .i64 x1], .box [.int .u8 x2, .int .i64 x3, .bool x4, .nl]] (.bool r.1) [.box [.str x0, .int .i64 r.2.1], .box [.int .u8 x2, .int .i64 x3, .bool x4, .vc 2], vecL encSt41 2 41 r.2.2] := by
 refine kFn (fn := Tryz.f61) (fun F hFn hFH hFD => ?_)
 unfold rule_reader__ranges_s0 at h
 refine kSR ?_
 refine kC 1 [0,1,4] ?_
 refine kEN ?_
 refine K.block 0 (by kernel_rfl) ?_
 refine J.wk (Wk.vivBox 1 3 2 41 (cs := [.int .u8 x2, .int .i64 x3, .bool x4, .nl]) (by kernel_rfl) (by kernel_rfl)) ?_
 refine K.loop (by kernel_rfl) (fun (s1 : Int × (List St41)) => ([(0, .ptr 0 0), (1, .ptr 1 0), (4, .bool false)], [.box [.str x0, .int .i64 s1.1], .box [.int .u8 x2, .int .i64 x3, .bool x4, .vc 2], vecL encSt41 2 41 s1.2])) h [0, 1, 4] (by kernel_rfl) (by kernel_rfl) (fun s1 x139 hs138 => ?_)
 refine K.block 1 (by kernel_rfl) ?_
 refine kSR ?_
 refine kC 1 [0,1,4,9] ?_
 obtain ⟨y140, hy141, h142⟩ := bindS hs138
 refine RJ.callG (d := (some 10)) (f := 77) (args := [.ptr 0 0, .int .i64 0]) (args0 := [.ptr 0 0, .int .i64 0]) (v0 := .tup [.int .i64 y140.1, .bool y140.2.1]) (v := .tup [.int .i64 y140.1, .bool y140.2.1]) (tr2 := []) (H0 := [.box [.str x0, .int .i64 s1.1]]) (H0' := [.box [.str x0, .int .i64 y140.2.2]]) (H2 := [.box [.str x0, .int .i64 y140.2.2], .box [.int .u8 x2, .int .i64 x3, .bool x4, .vc 2], vecL encSt41 2 41 s1.2]) [0] (by kernel_rfl) (by kernel_rfl) (by kernel_rfl) (by kernel_rfl) (by decide) (by kernel_rfl) (by kernel_rfl) (by kernel_rfl) (.cons (Le.refl _) (.cons (Le.refl _) .nil)) (rule_reader__number_s0_ok hy141) (by kernel_rfl) (by kernel_rfl) (by kernel_rfl) ?_
 refine kC 5 [0,1,4,5,6] ?_
 refine kEN ?_
 refine kSR ?_
 refine kC 2 [0,1,4,5,6,7] ?_
 refine kEN ?_
 obtain ⟨s166, hy168, h170⟩ := bindS h142
 refine K.cutN (by kernel_rfl) (fun (s166 : Bool × Int × Int) => ([(0, .ptr 0 0), (1, .ptr 1 0), (4, .bool false), (5, .int .i64 y140.1), (6, .bool s166.1), (7, .int .i64 s166.2.1)], [.box [.str x0, .int .i64 s166.2.2], .box [.int .u8 x2, .int .i64 x3, .bool x4, .vc 2], vecL encSt41 2 41 s1.2])) s166 ?_ ?_
 ·obtain ⟨s177, hy179, h181⟩ := bindS hy168
  refine K.cutN (by kernel_rfl) (fun (s177 : Bool × Int) => ([(0, .ptr 0 0), (1, .ptr 1 0), (4, .bool false), (5, .int .i64 y140.1), (6, .bool y140.2.1), (7, .int .i64 y140.1), (18, .bool s177.1)], [.box [.str x0, .int .i64 s177.2], .box [.int .u8 x2, .int .i64 x3, .bool x4, .vc 2], vecL encSt41 2 41 s1.2])) s177 ?_ ?_
  ·refine kR ?_
   refine RJ.seg 2 [0, 1, 4, 5, 6, 7, 15] (L2 := [(0, .ptr 0 0), (1, .ptr 1 0), (4, .bool false), (5, .int .i64 y140.1), (6, .bool y140.2.1), (7, .int .i64 y140.1), (15, .bool y140.2.1)]) (H2 := [.box [.str x0, .int .i64 y140.2.2], .box [.int .u8 x2, .int .i64 x3, .bool x4, .vc 2], vecL encSt41 2 41 s1.2]) (by kernel_rfl) ?_
   refine RJ.caseB 15 (b := y140.2.1) (by kernel_rfl) (fun hb182 => ?_) (fun hb182 => ?_)
   ·have h183 := condT hb182 hy179
    refine kC 1 [0,1,4,5,6,7,15,16] ?_
    obtain ⟨y185, hy186, h187⟩ := bindS h183
    refine RJ.callG (d := (some 17)) (f := 76) (args := [.ptr 0 0, .str ([46, 46] : List UInt8)]) (args0 := [.ptr 0 0, .str ([46, 46] : List UInt8)]) (v0 := .bool y185.1) (v := .bool y185.1) (tr2 := []) (H0 := [.box [.str x0, .int .i64 y140.2.2]]) (H0' := [.box [.str x0, .int .i64 y185.2]]) (H2 := [.box [.str x0, .int .i64 y185.2], .box [.int .u8 x2, .int .i64 x3, .bool x4, .vc 2], vecL encSt41 2 41 s1.2]) [0] (by kernel_rfl) (by kernel_rfl) (by kernel_rfl) (by kernel_rfl) (by decide) (by kernel_rfl) (by kernel_rfl) (by kernel_rfl) (.cons (Le.refl _) (.cons (Le.refl _) .nil)) (rule_reader__eat_s0_ok hy186) (by kernel_rfl) (by kernel_rfl) (by kernel_rfl) ?_
    refine kC 1 [0,1,4,5,6,7,18] ?_
    refine kE ?_
    obtain rfl := oi h187
    exact kN [0, 1, 4, 5, 6, 7, 18]
   ·have h184 := condF hb182 hy179
    refine kC 3 [0,1,4,5,6,7,18] ?_
    refine kE ?_
    obtain rfl := oi h184
    exact kN [0, 1, 4, 5, 6, 7, 18]
  ·refine J.caseB 18 (b := s177.1) (by kernel_rfl) (fun hb188 => ?_) (fun hb188 => ?_)
   ·have h189 := condT hb188 h181
    refine kT ?_
    refine kR ?_
    refine kC 3 [0,1,4,5,6,7,20,22] ?_
    obtain ⟨y191, hy192, h193⟩ := bindS h189
    refine RJ.callG (d := (some 23)) (f := 77) (args := [.ptr 0 0, .int .i64 (IntKind.wrap .i64 (y140.1 + 1))]) (args0 := [.ptr 0 0, .int .i64 (IntKind.wrap .i64 (y140.1 + 1))]) (v0 := .tup [.int .i64 y191.1, .bool y191.2.1]) (v := .tup [.int .i64 y191.1, .bool y191.2.1]) (tr2 := []) (H0 := [.box [.str x0, .int .i64 s177.2]]) (H0' := [.box [.str x0, .int .i64 y191.2.2]]) (H2 := [.box [.str x0, .int .i64 y191.2.2], .box [.int .u8 x2, .int .i64 x3, .bool x4, .vc 2], vecL encSt41 2 41 s1.2]) [0] (by kernel_rfl) (by kernel_rfl) (by kernel_rfl) (by kernel_rfl) (by decide) (by kernel_rfl) (by kernel_rfl) (by kernel_rfl) (.cons (Le.refl _) (.cons (Le.refl _) .nil)) (rule_reader__number_s0_ok hy192) (by kernel_rfl) (by kernel_rfl) (by kernel_rfl) ?_
    refine kC 5 [0,1,4,5,6,7] ?_
    refine kE ?_
    obtain rfl := oi h193
    exact kN [0, 1, 4, 5, 6, 7]
   ·have h190 := condF hb188 h181
    refine kF ?_
    refine kK ?_
    obtain rfl := oi h190
    exact kN [0, 1, 4, 5, 6, 7]
 ·refine kS ?_
  refine kSR ?_
  refine kC 2 [0,1,4,5,7,27] ?_
  refine kEN ?_
  refine J.caseB 27 (b := (!s166.1)) (by kernel_rfl) (fun hb194 => ?_) (fun hb194 => ?_)
  ·have h195 := condT hb194 h170
   refine kT ?_
   refine kSR ?_
   refine kC 1 [0,1,4,5,7] ?_
   refine kEN ?_
   refine kX ?_
   refine PJ.passRet ?_
   refine PJ.blockRet ?_
   obtain rfl := oi h195
   refine PJ.loopOut (fun e => nomatch e) (fun he198 => ?_)
   have h197 := congrArg some he198
   refine PJ.blockRet ?_
   obtain rfl := oi h197
   exact K.retV (H0 := [.box [.str x0, .int .i64 x1], .box [.int .u8 x2, .int .i64 x3, .bool x4, .nl]]) [0, 1, 2] (.inr rfl) hFn hFH hFD (by kernel_rfl) (v1 := .bool false) (by kernel_rfl) (by kernel_rfl) (by kernel_rfl) (by decide) (by kernel_rfl) (by kernel_rfl) (by kernel_rfl) (by kernel_rfl) (by kernel_rfl)
  ·have h196 := condF hb194 h170
   refine kF ?_
   refine kK ?_
   refine PJ.next ?_
   refine kSR ?_
   refine kC 9 [0,1,4,28,32,36] ?_
   obtain ⟨hm, h199⟩ := asrt h196
   refine RJ.rel (d := (some 37)) (ef := ⟨.vc 4, [2, 3], [(2, .gone), (4, .vec (s1.2.length + ([(⟨y140.1, s166.2.1⟩ : St41)] : List St41).length) 2 41 (s1.2.flatMap encSt41 ++ ([(⟨y140.1, s166.2.1⟩ : St41)] : List St41).flatMap encSt41))]⟩) (ef' := ⟨.vc 4, [2, 3], [(2, .gone), (4, vecL encSt41 2 41 (s1.2 ++ ([(⟨y140.1, s166.2.1⟩ : St41)] : List St41)))]⟩) (c := room (s1.2.length + ([(⟨y140.1, s166.2.1⟩ : St41)] : List St41).length)) (tr2 := []) (H2 := [.box [.str x0, .int .i64 s166.2.2], .box [.int .u8 x2, .int .i64 x3, .bool x4, .vc 2], .gone, vecL encSt41 2 41 ([(⟨y140.1, s166.2.1⟩ : St41)] : List St41), vecL encSt41 2 41 ((s1.2 ++ ([(⟨y140.1, s166.2.1⟩ : St41)] : List St41)))]) (by kernel_rfl) hm (fun hc => N.app) (by kernel_rfl) ?_
   refine kC 3 [0,1,4] ?_
   refine kEN ?_
   refine kSR ?_
   refine RJ.seg 1 [0, 1, 4, 40] (L2 := [(0, .ptr 0 0), (1, .ptr 1 0), (4, .bool false), (40, .ptr 0 0)]) (H2 := [.box [.str x0, .int .i64 s166.2.2], .box [.int .u8 x2, .int .i64 x3, .bool x4, .vc 4], .gone, vecL encSt41 2 41 ([(⟨y140.1, s166.2.1⟩ : St41)] : List St41), vecL encSt41 2 41 ((s1.2 ++ ([(⟨y140.1, s166.2.1⟩ : St41)] : List St41)))]) (by kernel_rfl) ?_
   obtain ⟨y200, hy201, h202⟩ := bindS h199
   refine RJ.callG (d := (some 41)) (f := 76) (args := [.ptr 0 0, .str ([44] : List UInt8)]) (args0 := [.ptr 0 0, .str ([44] : List UInt8)]) (v0 := .bool y200.1) (v := .bool y200.1) (tr2 := []) (H0 := [.box [.str x0, .int .i64 s166.2.2]]) (H0' := [.box [.str x0, .int .i64 y200.2]]) (H2 := [.box [.str x0, .int .i64 y200.2], .box [.int .u8 x2, .int .i64 x3, .bool x4, .vc 4], .gone, vecL encSt41 2 41 ([(⟨y140.1, s166.2.1⟩ : St41)] : List St41), vecL encSt41 2 41 ((s1.2 ++ ([(⟨y140.1, s166.2.1⟩ : St41)] : List St41)))]) [0] (by kernel_rfl) (by kernel_rfl) (by kernel_rfl) (by kernel_rfl) (by decide) (by kernel_rfl) (by kernel_rfl) (by kernel_rfl) (.cons (Le.refl _) (.cons (Le.refl _) .nil)) (rule_reader__eat_s0_ok hy201) (by kernel_rfl) (by kernel_rfl) (by kernel_rfl) ?_
   refine kC 1 [0,1,4,42] ?_
   refine kEN ?_
   refine J.caseB 42 (b := (!y200.1)) (by kernel_rfl) (fun hb203 => ?_) (fun hb203 => ?_)
   ·have h204 := condT hb203 h202
    refine kT ?_
    refine kSR ?_
    refine kC 1 [0,1,4] ?_
    refine kEN ?_
    refine kX ?_
    refine PJ.blockRet ?_
    obtain rfl := oi h204
    refine PJ.loopOut (fun e => nomatch e) (fun he207 => ?_)
    have h206 := congrArg some he207
    refine PJ.blockRet ?_
    obtain rfl := oi h206
    exact K.retV (H0 := [.box [.str x0, .int .i64 x1], .box [.int .u8 x2, .int .i64 x3, .bool x4, .nl]]) [0, 1, 4] (.inr rfl) hFn hFH hFD (by kernel_rfl) (v1 := .bool true) (by kernel_rfl) (by kernel_rfl) (by kernel_rfl) (by decide) (by kernel_rfl) (by kernel_rfl) (by kernel_rfl) (by kernel_rfl) (by kernel_rfl)
   ·have h205 := condF hb203 h202
    refine kF ?_
    refine kK ?_
    refine PJ.blockNormal ?_
    obtain rfl := oi h205
    refine PJ.wk (Wk.sel (L2 := [(0, .ptr 0 0), (1, .ptr 1 0), (4, .bool false)]) (H2 := [.box [.str x0, .int .i64 y200.2], .box [.int .u8 x2, .int .i64 x3, .bool x4, .vc 2], vecL encSt41 2 41 ((s1.2 ++ ([(⟨y140.1, s166.2.1⟩ : St41)] : List St41)))]) 2 (by rw [hFH]; rfl) hFD [0, 1, 4] (by kernel_rfl) (by kernel_rfl) (by decide) (by kernel_rfl) (by kernel_rfl) (by kernel_rfl) (by kernel_rfl)) ?_
    exact PJ.loopNext [0, 1, 4] (by kernel_rfl) (by kernel_rfl)
def rule_reader__relation_s0 (x0 : List UInt8) (x1 : Int) : Option (St39 × Bool × Int) :=
 (Option.bind (Option.bind (Option.bind (rule_reader__operand_s0 x0 x1 0 0 false) fun y83 => (bif y83.1 then (Option.bind (rule_reader__mod_s0 x0 y83.2.1 y83.2.2 0 false) fun y89 => (bif y89.1 then (Option.bind (rule_reader__sign_s0 x0 y89.2.1 y83.2.2 y89.2.2 false) fun y95 => (bif y95.1 then (Option.bind (rule_reader__ranges_s0 x0 y95.2.1 y83.2.2 y89.2.2 y95.2.2) fun y101 => (some (y101.1, y101.2.1, y83.2.2, y89.2.2, y95.2.2, y101.2.2))) else (some (false, y95.2.1, y83.2.2, y89.2.2, y95.2.2, ([] : List St41))))) else (some (false, y89.2.1, y83.2.2, y89.2.2, false, ([] : List St41))))) else (some (false, y83.2.1, y83.2.2, 0, false, ([] : List St41))))) fun (s78 : Bool × Int × Int × Int × Bool × (List St41)) => (bif s78.1 then (some (.inr ((⟨s78.2.2.1, s78.2.2.2.1, s78.2.2.2.2.1, s78.2.2.2.2.2⟩ : St39), true, s78.2.1))) else (some (.inl s78.2.1)))) (joinX fun (s52 : Int) => (some ((⟨0, 0, false, ([] : List St41)⟩ : St39), false, s52))))
theorem rule_reader__relation_s0_ok {x0 : List UInt8} {x1 : Int} {r : St39 × Bool × Int} (h : rule_reader__relation_s0 x0 x1 = some r) : SC Tryz.prog 42 [.ptr 0 0] [.box [.str x0, .int .i64 x1]] (.tup [.agg (encSt39 r.1), .bool r.2.1]) [.box [.str x0, .int .i64 r.2.2]] := by
 refine kFn (fn := Tryz.f42) (fun F hFn hFH hFD => ?_)
 unfold rule_reader__relation_s0 at h
 refine kSR ?_
 refine kC 2 [0,2,3] ?_
 refine kEN ?_
 refine kSR ?_
 refine kC 1 [0,2,3,4] ?_
 refine kEN ?_
 obtain ⟨y53, hy54, h55⟩ := bindS h
 refine K.cutX (by kernel_rfl) (fun (s52 : Int) => ([(2, .ptr 1 0), (3, .bool false)], [.box [.str x0, .int .i64 s52], .box [.int .u8 0, .int .i64 0, .bool false, .nl]])) y53 ?_ (fun s52 hs => ?_)
 ·obtain ⟨s78, hy80, h82⟩ := bindS hy54
  refine K.cutN (by kernel_rfl) (fun (s78 : Bool × Int × Int × Int × Bool × (List St41)) => ([(2, .ptr 1 0), (3, .bool false), (4, .ptr 2 0), (18, .bool s78.1)], [.box [.str x0, .int .i64 s78.2.1], .box [.int .u8 0, .int .i64 0, .bool false, .nl], .box [.int .u8 s78.2.2.1, .int .i64 s78.2.2.2.1, .bool s78.2.2.2.2.1, .vc 3], vecL encSt41 2 41 s78.2.2.2.2.2])) s78 ?_ ?_
  ·refine kR ?_
   refine kC 1 [0,2,3,4,5] ?_
   obtain ⟨y83, hy84, h85⟩ := bindS hy80
   refine RJ.callG (d := (some 6)) (f := 58) (args := [.ptr 0 0, .ptr 2 0]) (args0 := [.ptr 0 0, .ptr 1 0]) (v0 := .bool y83.1) (v := .bool y83.1) (tr2 := []) (H0 := [.box [.str x0, .int .i64 x1], .box [.int .u8 0, .int .i64 0, .bool false, .nl]]) (H0' := [.box [.str x0, .int .i64 y83.2.1], .box [.int .u8 y83.2.2, .int .i64 0, .bool false, .nl]]) (H2 := [.box [.str x0, .int .i64 y83.2.1], .box [.int .u8 0, .int .i64 0, .bool false, .nl], .box [.int .u8 y83.2.2, .int .i64 0, .bool false, .nl]]) [0, 2] (by kernel_rfl) (by kernel_rfl) (by kernel_rfl) (by kernel_rfl) (by decide) (by kernel_rfl) (by kernel_rfl) (by kernel_rfl) (.cons (Le.refl _) (.cons (Le.refl _) .nil)) (rule_reader__operand_s0_ok hy84) (by kernel_rfl) (by kernel_rfl) (by kernel_rfl) ?_
   refine RJ.seg 1 [0, 2, 3, 4, 7] (L2 := [(0, .ptr 0 0), (2, .ptr 1 0), (3, .bool false), (4, .ptr 2 0), (7, .bool y83.1)]) (H2 := [.box [.str x0, .int .i64 y83.2.1], .box [.int .u8 0, .int .i64 0, .bool false, .nl], .box [.int .u8 y83.2.2, .int .i64 0, .bool false, .nl]]) (by kernel_rfl) ?_
   refine RJ.caseB 7 (b := y83.1) (by kernel_rfl) (fun hb86 => ?_) (fun hb86 => ?_)
   ·have h87 := condT hb86 h85
    refine kC 1 [0,2,3,4,7,8] ?_
    obtain ⟨y89, hy90, h91⟩ := bindS h87
    refine RJ.callG (d := (some 9)) (f := 59) (args := [.ptr 0 0, .ptr 2 0]) (args0 := [.ptr 0 0, .ptr 1 0]) (v0 := .bool y89.1) (v := .bool y89.1) (tr2 := []) (H0 := [.box [.str x0, .int .i64 y83.2.1], .box [.int .u8 y83.2.2, .int .i64 0, .bool false, .nl]]) (H0' := [.box [.str x0, .int .i64 y89.2.1], .box [.int .u8 y83.2.2, .int .i64 y89.2.2, .bool false, .nl]]) (H2 := [.box [.str x0, .int .i64 y89.2.1], .box [.int .u8 0, .int .i64 0, .bool false, .nl], .box [.int .u8 y83.2.2, .int .i64 y89.2.2, .bool false, .nl]]) [0, 2] (by kernel_rfl) (by kernel_rfl) (by kernel_rfl) (by kernel_rfl) (by decide) (by kernel_rfl) (by kernel_rfl) (by kernel_rfl) (.cons (Le.refl _) (.cons (Le.refl _) .nil)) (rule_reader__mod_s0_ok hy90) (by kernel_rfl) (by kernel_rfl) (by kernel_rfl) ?_
    refine kC 2 [0,2,3,4,11] ?_
    refine RJ.caseB 11 (b := y89.1) (by kernel_rfl) (fun hb92 => ?_) (fun hb92 => ?_)
    ·have h93 := condT hb92 h91
     refine kC 1 [0,2,3,4,11,12] ?_
     obtain ⟨y95, hy96, h97⟩ := bindS h93
     refine RJ.callG (d := (some 13)) (f := 60) (args := [.ptr 0 0, .ptr 2 0]) (args0 := [.ptr 0 0, .ptr 1 0]) (v0 := .bool y95.1) (v := .bool y95.1) (tr2 := []) (H0 := [.box [.str x0, .int .i64 y89.2.1], .box [.int .u8 y83.2.2, .int .i64 y89.2.2, .bool false, .nl]]) (H0' := [.box [.str x0, .int .i64 y95.2.1], .box [.int .u8 y83.2.2, .int .i64 y89.2.2, .bool y95.2.2, .nl]]) (H2 := [.box [.str x0, .int .i64 y95.2.1], .box [.int .u8 0, .int .i64 0, .bool false, .nl], .box [.int .u8 y83.2.2, .int .i64 y89.2.2, .bool y95.2.2, .nl]]) [0, 2] (by kernel_rfl) (by kernel_rfl) (by kernel_rfl) (by kernel_rfl) (by decide) (by kernel_rfl) (by kernel_rfl) (by kernel_rfl) (.cons (Le.refl _) (.cons (Le.refl _) .nil)) (rule_reader__sign_s0_ok hy96) (by kernel_rfl) (by kernel_rfl) (by kernel_rfl) ?_
     refine RJ.seg 2 [0, 2, 3, 4, 15] (L2 := [(0, .ptr 0 0), (2, .ptr 1 0), (3, .bool false), (4, .ptr 2 0), (15, .bool y95.1)]) (H2 := [.box [.str x0, .int .i64 y95.2.1], .box [.int .u8 0, .int .i64 0, .bool false, .nl], .box [.int .u8 y83.2.2, .int .i64 y89.2.2, .bool y95.2.2, .nl]]) (by kernel_rfl) ?_
     refine RJ.caseB 15 (b := y95.1) (by kernel_rfl) (fun hb98 => ?_) (fun hb98 => ?_)
     ·have h99 := condT hb98 h97
      refine kC 1 [2,3,4,15,16] ?_
      obtain ⟨y101, hy102, h103⟩ := bindS h99
      refine RJ.callG (d := (some 17)) (f := 61) (args := [.ptr 0 0, .ptr 2 0]) (args0 := [.ptr 0 0, .ptr 1 0]) (v0 := .bool y101.1) (v := .bool y101.1) (tr2 := []) (H0 := [.box [.str x0, .int .i64 y95.2.1], .box [.int .u8 y83.2.2, .int .i64 y89.2.2, .bool y95.2.2, .nl]]) (H0' := [.box [.str x0, .int .i64 y101.2.1], .box [.int .u8 y83.2.2, .int .i64 y89.2.2, .bool y95.2.2, .vc 2], vecL encSt41 2 41 y101.2.2]) (H2 := [.box [.str x0, .int .i64 y101.2.1], .box [.int .u8 0, .int .i64 0, .bool false, .nl], .box [.int .u8 y83.2.2, .int .i64 y89.2.2, .bool y95.2.2, .vc 3], vecL encSt41 2 41 y101.2.2]) [0, 2] (by kernel_rfl) (by kernel_rfl) (by kernel_rfl) (by kernel_rfl) (by decide) (by kernel_rfl) (by kernel_rfl) (by kernel_rfl) (.cons (Le.refl _) (.cons (Le.refl _) .nil)) (rule_reader__ranges_s0_ok hy102) (by kernel_rfl) (by kernel_rfl) (by kernel_rfl) ?_
      refine kC 1 [2,3,4,18] ?_
      refine kE ?_
      obtain rfl := oi h103
      exact kN [2, 3, 4, 18]
     ·have h100 := condF hb98 h97
      refine kC 3 [2,3,4,18] ?_
      refine kE ?_
      obtain rfl := oi h100
      refine PJ.wk (Wk.vivBox 2 3 2 41 (cs := [.int .u8 y83.2.2, .int .i64 y89.2.2, .bool y95.2.2, .nl]) (by kernel_rfl) (by kernel_rfl)) ?_
      exact kN [2, 3, 4, 18]
    ·have h94 := condF hb92 h91
     refine kC 7 [2,3,4,18] ?_
     refine kE ?_
     obtain rfl := oi h94
     refine PJ.wk (Wk.vivBox 2 3 2 41 (cs := [.int .u8 y83.2.2, .int .i64 y89.2.2, .bool false, .nl]) (by kernel_rfl) (by kernel_rfl)) ?_
     exact kN [2, 3, 4, 18]
   ·have h88 := condF hb86 h85
    refine kC 11 [2,3,4,18] ?_
    refine kE ?_
    obtain rfl := oi h88
    refine PJ.wk (Wk.vivBox 2 3 2 41 (cs := [.int .u8 y83.2.2, .int .i64 0, .bool false, .nl]) (by kernel_rfl) (by kernel_rfl)) ?_
    exact kN [2, 3, 4, 18]
  ·refine J.caseB 18 (b := s78.1) (by kernel_rfl) (fun hb104 => ?_) (fun hb104 => ?_)
   ·have h105 := condT hb104 h82
    refine kT ?_
    refine kSR ?_
    refine kC 3 [2,3] ?_
    refine kEN ?_
    refine kX ?_
    obtain rfl := oi h105
    have h107 := joinX_inr h55
    refine PJ.cutXr (fun e => nomatch e) ?_
    obtain rfl := oi h107
    refine PJ.wk (Wk.freeze 3 (n := s78.2.2.2.2.2.length) (k := 2) (e := 41) (cs := s78.2.2.2.2.2.flatMap encSt41) (by kernel_rfl)) ?_
    exact K.retV (H0 := [.box [.str x0, .int .i64 x1]]) [0] (.inr rfl) hFn hFH hFD (by kernel_rfl) (v1 := .tup [.agg [.int .u8 s78.2.2.1, .int .i64 s78.2.2.2.1, .bool s78.2.2.2.2.1, lsv encSt41 2 s78.2.2.2.2.2], .bool true]) (by kernel_rfl) (by kernel_rfl) (by kernel_rfl) (by decide) (by kernel_rfl) (by kernel_rfl) (by kernel_rfl) (by kernel_rfl) (by kernel_rfl)
   ·have h106 := condF hb104 h82
    refine kF ?_
    refine kK ?_
    obtain rfl := oi h106
    refine PJ.wk (Wk.sel (L2 := [(2, .ptr 1 0), (3, .bool false)]) (H2 := [.box [.str x0, .int .i64 s78.2.1], .box [.int .u8 0, .int .i64 0, .bool false, .nl]]) 1 (by rw [hFH]; rfl) hFD [0, 1] (by kernel_rfl) (by kernel_rfl) (by decide) (by kernel_rfl) (by kernel_rfl) (by kernel_rfl) (by kernel_rfl)) ?_
    exact PJ.cutXl [2, 3] (by kernel_rfl) (by kernel_rfl)
 ·subst hs
  have h56 := joinX_inl h55
  refine kSR ?_
  refine kC 3 [2,3] ?_
  refine kEN ?_
  refine kX ?_
  obtain rfl := oi h56
  refine PJ.res (v1 := .tup [.agg [.int .u8 0, .int .i64 0, .bool false, .nl], .bool false]) (Le.tup (.cons (Le.agg (.cons (Le.refl _) (.cons (Le.refl _) (.cons (Le.refl _) (.cons (Le.nl _) .nil))))) (.cons (Le.refl _) .nil))) ?_
  exact K.retV (H0 := [.box [.str x0, .int .i64 x1]]) [0] (.inr rfl) hFn hFH hFD (by kernel_rfl) (v1 := .tup [.agg [.int .u8 0, .int .i64 0, .bool false, .nl], .bool false]) (by kernel_rfl) (by kernel_rfl) (by kernel_rfl) (by decide) (by kernel_rfl) (by kernel_rfl) (by kernel_rfl) (by kernel_rfl) (by kernel_rfl)
def rule_reader__rows_s0 (x0 : List UInt8) (x1 : Int) : Option ((List (List St39)) × Bool × Int) :=
 (Option.bind (loopN (fun (s75 : Int × (List (List St39)) × (List St39)) => (Option.bind (rule_reader__relation_s0 x0 s75.1) fun y122 => (bif (!y122.2.1) then (some (.inr (.inr (([] : List (List St39)), false, y122.2.2)))) else (bif room (s75.2.2.length + ([y122.1] : List St39).length) then (Option.bind (rule_reader__word_s0 x0 y122.2.2) fun y132 => (bif (y132.1 == ([97, 110, 100] : List UInt8)) then (some (.inl ((IntKind.wrap .i64 (y132.2 + (y132.1.length : Int))), s75.2.1, (s75.2.2 ++ ([y122.1] : List St39))))) else (bif (y132.1 == ([111, 114] : List UInt8)) then (bif room (s75.2.1.length + (([(s75.2.2 ++ ([y122.1] : List St39))] : List (List St39))).length) then (some (.inl ((IntKind.wrap .i64 (y132.2 + (y132.1.length : Int))), (s75.2.1 ++ (([(s75.2.2 ++ ([y122.1] : List St39))] : List (List St39)))), ([] : List St39)))) else none) else (some (.inr (.inl (y132.2, s75.2.1, (s75.2.2 ++ ([y122.1] : List St39))))))))) else none)))) big (x1, ([] : List (List St39)), ([] : List St39))) (joinX fun (s70 : Int × (List (List St39)) × (List St39)) => (bif room (s70.2.1.length + ([s70.2.2] : List (List St39)).length) then (some ((s70.2.1 ++ ([s70.2.2] : List (List St39))), (decide (s70.1 = (x0.length : Int))), s70.1)) else none)))
theorem rule_reader__rows_s0_ok {x0 : List UInt8} {x1 : Int} {r : (List (List St39)) × Bool × Int} (h : rule_reader__rows_s0 x0 x1 = some r) : SC Tryz.prog 27 [.ptr 0 0] [.box [.str x0, .int .i64 x1]] (.tup [lsv (encL encSt39 4) 1 r.1, .bool r.2.1]) [.box [.str x0, .int .i64 r.2.2]] := by
 refine kFn (fn := Tryz.f27) (fun F hFn hFH hFD => ?_)
 unfold rule_reader__rows_s0 at h
 refine kSR ?_
 refine kC 2 [0,2,3] ?_
 refine kEN ?_
 refine K.scope (by kernel_rfl) ?_
 refine kSR ?_
 refine kC 1 [0,2,3,4] ?_
 refine kEN ?_
 refine kSR ?_
 refine kC 1 [0,2,3,4,5] ?_
 refine kEN ?_
 refine kS ?_
 refine K.label (by kernel_rfl) ?_
 refine PJ.next ?_
 obtain ⟨y71, hy72, h73⟩ := bindS h
 refine K.cutX (by kernel_rfl) (fun (s70 : Int × (List (List St39)) × (List St39)) => ([(0, .ptr 0 0), (2, .nl), (3, .bool false), (4, .vc 1), (5, .vc 2)], [.box [.str x0, .int .i64 s70.1], vecL (encL encSt39 4) 1 37 s70.2.1, vecL encSt39 4 40 s70.2.2])) y71 ?_ (fun s70 hs => ?_)
 ·refine K.block 0 (by kernel_rfl) ?_
  refine J.wk (Wk.viv 4 1 37 (by kernel_rfl)) ?_
  refine J.wk (Wk.viv 5 4 40 (by kernel_rfl)) ?_
  refine K.loop (by kernel_rfl) (fun (s75 : Int × (List (List St39)) × (List St39)) => ([(0, .ptr 0 0), (2, .nl), (3, .bool false), (4, .vc 1), (5, .vc 2)], [.box [.str x0, .int .i64 s75.1], vecL (encL encSt39 4) 1 37 s75.2.1, vecL encSt39 4 40 s75.2.2])) hy72 [0, 2, 3, 4, 5] (by kernel_rfl) (by kernel_rfl) (fun s75 x121 hs120 => ?_)
  refine K.block 1 (by kernel_rfl) ?_
  refine kSR ?_
  refine kC 1 [0,2,3,4,5,10] ?_
  obtain ⟨y122, hy123, h124⟩ := bindS hs120
  refine RJ.callG (d := (some 11)) (f := 42) (args := [.ptr 0 0]) (args0 := [.ptr 0 0]) (v0 := .tup [.agg (encSt39 y122.1), .bool y122.2.1]) (v := .tup [.agg (encSt39 y122.1), .bool y122.2.1]) (tr2 := []) (H0 := [.box [.str x0, .int .i64 s75.1]]) (H0' := [.box [.str x0, .int .i64 y122.2.2]]) (H2 := [.box [.str x0, .int .i64 y122.2.2], vecL (encL encSt39 4) 1 37 s75.2.1, vecL encSt39 4 40 s75.2.2]) [0] (by kernel_rfl) (by kernel_rfl) (by kernel_rfl) (by kernel_rfl) (by decide) (by kernel_rfl) (by kernel_rfl) (by kernel_rfl) (.cons (Le.refl _) .nil) (rule_reader__relation_s0_ok hy123) (by kernel_rfl) (by kernel_rfl) (by kernel_rfl) ?_
  refine kC 6 [0,2,3,4,5,6,7] ?_
  refine kEN ?_
  refine kS ?_
  refine kSR ?_
  refine kC 2 [0,2,3,4,5,6,15] ?_
  refine kEN ?_
  refine J.caseB 15 (b := (!y122.2.1)) (by kernel_rfl) (fun hb125 => ?_) (fun hb125 => ?_)
  ·have h126 := condT hb125 h124
   refine kT ?_
   refine kSR ?_
   refine RJ.seg 2 [0, 2, 3, 4, 5, 6] (L2 := [(0, .ptr 0 0), (2, .nl), (3, .bool false), (4, .vc 1), (5, .vc 2), (6, .ptr 3 0)]) (H2 := [.box [.str x0, .int .i64 y122.2.2], vecL (encL encSt39 4) 1 37 s75.2.1, vecL encSt39 4 40 s75.2.2, .box (encSt39 y122.1)]) (by kernel_rfl) ?_
   refine kEN ?_
   refine kX ?_
   refine PJ.passRet ?_
   refine PJ.blockRet ?_
   obtain rfl := oi h126
   refine PJ.loopOut (fun e => nomatch e) (fun he130 => ?_)
   have h128 := congrArg some he130
   refine PJ.blockRet ?_
   obtain rfl := oi h128
   have h129 := joinX_inr h73
   refine PJ.cutXr (fun e => nomatch e) ?_
   refine PJ.scR ?_
   obtain rfl := oi h129
   refine PJ.res (v1 := .tup [.nl, .bool false]) (Le.tup (.cons (Le.nl _) (.cons (Le.refl _) .nil))) ?_
   exact K.retV (H0 := [.box [.str x0, .int .i64 x1]]) [0] (.inr rfl) hFn hFH hFD (by kernel_rfl) (v1 := .tup [.nl, .bool false]) (by kernel_rfl) (by kernel_rfl) (by kernel_rfl) (by decide) (by kernel_rfl) (by kernel_rfl) (by kernel_rfl) (by kernel_rfl) (by kernel_rfl)
  ·have h127 := condF hb125 h124
   refine kF ?_
   refine kK ?_
   refine PJ.next ?_
   refine kSR ?_
   refine RJ.seg 3 [0, 2, 3, 4, 5, 16, 18] (L2 := [(0, .ptr 0 0), (2, .nl), (3, .bool false), (4, .vc 1), (5, .vc 2), (16, .vc 2), (18, .vc 4)]) (H2 := [.box [.str x0, .int .i64 y122.2.2], vecL (encL encSt39 4) 1 37 s75.2.1, vecL encSt39 4 40 s75.2.2, .box (encSt39 y122.1), vecL encSt39 4 40 ([y122.1] : List St39)]) (by kernel_rfl) ?_
   obtain ⟨hm, h131⟩ := asrt h127
   refine RJ.rel (d := (some 19)) (ef := ⟨.vc 5, [2, 4], [(2, .gone), (5, .vec (s75.2.2.length + ([y122.1] : List St39).length) 4 40 (s75.2.2.flatMap encSt39 ++ ([y122.1] : List St39).flatMap encSt39))]⟩) (ef' := ⟨.vc 5, [2, 4], [(2, .gone), (5, vecL encSt39 4 40 (s75.2.2 ++ ([y122.1] : List St39)))]⟩) (c := room (s75.2.2.length + ([y122.1] : List St39).length)) (tr2 := []) (H2 := [.box [.str x0, .int .i64 y122.2.2], vecL (encL encSt39 4) 1 37 s75.2.1, .gone, .box (encSt39 y122.1), vecL encSt39 4 40 ([y122.1] : List St39), vecL encSt39 4 40 (s75.2.2 ++ ([y122.1] : List St39))]) (by kernel_rfl) hm (fun hc => N.app) (by kernel_rfl) ?_
   refine kC 1 [0,2,3,4,5] ?_
   refine kEN ?_
   refine kSR ?_
   refine kC 1 [0,2,3,4,5,20] ?_
   obtain ⟨y132, hy133, h134⟩ := bindS h131
   refine RJ.callG (d := (some 21)) (f := 43) (args := [.ptr 0 0]) (args0 := [.ptr 0 0]) (v0 := .str y132.1) (v := .str y132.1) (tr2 := []) (H0 := [.box [.str x0, .int .i64 y122.2.2]]) (H0' := [.box [.str x0, .int .i64 y132.2]]) (H2 := [.box [.str x0, .int .i64 y132.2], vecL (encL encSt39 4) 1 37 s75.2.1, .gone, .box (encSt39 y122.1), vecL encSt39 4 40 ([y122.1] : List St39), vecL encSt39 4 40 (s75.2.2 ++ ([y122.1] : List St39))]) [0] (by kernel_rfl) (by kernel_rfl) (by kernel_rfl) (by kernel_rfl) (by decide) (by kernel_rfl) (by kernel_rfl) (by kernel_rfl) (.cons (Le.refl _) .nil) (rule_reader__word_s0_ok hy133) (by kernel_rfl) (by kernel_rfl) (by kernel_rfl) ?_
   refine kC 1 [0,2,3,4,5,8] ?_
   refine kEN ?_
   refine kSR ?_
   refine RJ.seg 1 [0, 2, 3, 4, 5, 8, 22] (L2 := [(0, .ptr 0 0), (2, .nl), (3, .bool false), (4, .vc 1), (5, .vc 5), (8, .str y132.1), (22, .str y132.1)]) (H2 := [.box [.str x0, .int .i64 y132.2], vecL (encL encSt39 4) 1 37 s75.2.1, .gone, .box (encSt39 y122.1), vecL encSt39 4 40 ([y122.1] : List St39), vecL encSt39 4 40 (s75.2.2 ++ ([y122.1] : List St39))]) (by kernel_rfl) ?_
   refine kEN ?_
   refine K.block 2 (by kernel_rfl) ?_
   refine kSR ?_
   refine kC 2 [0,2,3,4,5,8,22,23] ?_
   refine kEN ?_
   refine J.caseB 23 (b := (y132.1 == ([97, 110, 100] : List UInt8))) (by kernel_rfl) (fun hb135 => ?_) (fun hb135 => ?_)
   ·have h136 := condT hb135 h134
    refine kT ?_
    refine kR ?_
    refine kC 10 [0,2,3,4,5] ?_
    refine kE ?_
    refine PJ.blockNormal ?_
    refine PJ.blockNormal ?_
    obtain rfl := oi h136
    refine PJ.wk (Wk.sel (L2 := [(0, .ptr 0 0), (2, .nl), (3, .bool false), (4, .vc 1), (5, .vc 2)]) (H2 := [.box [.str x0, .int .i64 ((IntKind.wrap .i64 (y132.2 + (y132.1.length : Int))))], vecL (encL encSt39 4) 1 37 s75.2.1, vecL encSt39 4 40 (s75.2.2 ++ ([y122.1] : List St39))]) 1 (by rw [hFH]; rfl) hFD [0, 1, 5] (by kernel_rfl) (by kernel_rfl) (by decide) (by kernel_rfl) (by kernel_rfl) (by kernel_rfl) (by kernel_rfl)) ?_
    exact PJ.loopNext [0, 2, 3, 4, 5] (by kernel_rfl) (by kernel_rfl)
   ·have h137 := condF hb135 h134
    refine kF ?_
    refine kSR ?_
    refine kC 2 [0,2,3,4,5,8,34] ?_
    refine kEN ?_
    refine J.caseB 34 (b := (y132.1 == ([111, 114] : List UInt8))) (by kernel_rfl) (fun hb138 => ?_) (fun hb138 => ?_)
    ·have h139 := condT hb138 h137
     refine kT ?_
     refine kSR ?_
     refine kC 10 [0,2,3,4,5] ?_
     refine kEN ?_
     refine kSR ?_
     refine RJ.seg 2 [0, 2, 3, 4, 5, 45, 46] (L2 := [(0, .ptr 0 0), (2, .nl), (3, .bool false), (4, .vc 1), (5, .vc 5), (45, .vc 1), (46, .vc 5)]) (H2 := [.box [.str x0, .int .i64 ((IntKind.wrap .i64 (y132.2 + (y132.1.length : Int))))], vecL (encL encSt39 4) 1 37 s75.2.1, .gone, .box (encSt39 y122.1), vecL encSt39 4 40 ([y122.1] : List St39), vecL encSt39 4 40 (s75.2.2 ++ ([y122.1] : List St39))]) (by kernel_rfl) ?_
     refine RJ.wk (Wk.freeze 5 (n := (s75.2.2 ++ ([y122.1] : List St39)).length) (k := 4) (e := 40) (cs := (s75.2.2 ++ ([y122.1] : List St39)).flatMap encSt39) (by kernel_rfl)) ?_
     refine kC 1 [0,2,3,4,5,45,47] ?_
     obtain ⟨hm, h141⟩ := asrt h139
     refine RJ.rel (d := (some 48)) (ef := ⟨.vc 7, [1, 6], [(1, .gone), (7, .vec (s75.2.1.length + (([(s75.2.2 ++ ([y122.1] : List St39))] : List (List St39))).length) 1 37 (s75.2.1.flatMap (encL encSt39 4) ++ (([(s75.2.2 ++ ([y122.1] : List St39))] : List (List St39))).flatMap (encL encSt39 4)))]⟩) (ef' := ⟨.vc 7, [1, 6], [(1, .gone), (7, vecL (encL encSt39 4) 1 37 (s75.2.1 ++ (([(s75.2.2 ++ ([y122.1] : List St39))] : List (List St39)))))]⟩) (c := room (s75.2.1.length + (([(s75.2.2 ++ ([y122.1] : List St39))] : List (List St39))).length)) (tr2 := []) (H2 := [.box [.str x0, .int .i64 ((IntKind.wrap .i64 (y132.2 + (y132.1.length : Int))))], .gone, .gone, .box (encSt39 y122.1), vecL encSt39 4 40 ([y122.1] : List St39), .gone, vecL (encL encSt39 4) 1 37 (([(s75.2.2 ++ ([y122.1] : List St39))] : List (List St39))), vecL (encL encSt39 4) 1 37 ((s75.2.1 ++ (([(s75.2.2 ++ ([y122.1] : List St39))] : List (List St39)))))]) (by kernel_rfl) hm (fun hc => N.app) (by kernel_rfl) ?_
     refine kC 1 [0,2,3,4,5] ?_
     refine kEN ?_
     refine kR ?_
     refine kC 1 [0,2,3,4,5] ?_
     refine kE ?_
     refine PJ.blockNormal ?_
     refine PJ.blockNormal ?_
     obtain rfl := oi h141
     refine PJ.wk (Wk.viv 5 4 40 (by kernel_rfl)) ?_
     refine PJ.wk (Wk.sel (L2 := [(0, .ptr 0 0), (2, .nl), (3, .bool false), (4, .vc 1), (5, .vc 2)]) (H2 := [.box [.str x0, .int .i64 ((IntKind.wrap .i64 (y132.2 + (y132.1.length : Int))))], vecL (encL encSt39 4) 1 37 ((s75.2.1 ++ (([(s75.2.2 ++ ([y122.1] : List St39))] : List (List St39))))), vecL encSt39 4 40 ([] : List St39)]) 1 (by rw [hFH]; rfl) hFD [0, 7, 8] (by kernel_rfl) (by kernel_rfl) (by decide) (by kernel_rfl) (by kernel_rfl) (by kernel_rfl) (by kernel_rfl)) ?_
     exact PJ.loopNext [0, 2, 3, 4, 5] (by kernel_rfl) (by kernel_rfl)
    ·have h140 := condF hb138 h137
     refine kF ?_
     refine K.exit 0 (by kernel_rfl) ?_
     refine PJ.blockPass (by kernel_rfl) ?_
     refine PJ.blockPass (by kernel_rfl) ?_
     obtain rfl := oi h140
     refine PJ.loopOut (fun e => nomatch e) (fun he143 => ?_)
     have h142 := congrArg some he143
     refine PJ.blockOut ?_
     obtain rfl := oi h142
     refine PJ.wk (Wk.sel (L2 := [(0, .ptr 0 0), (2, .nl), (3, .bool false), (4, .vc 1), (5, .vc 2)]) (H2 := [.box [.str x0, .int .i64 y132.2], vecL (encL encSt39 4) 1 37 s75.2.1, vecL encSt39 4 40 (s75.2.2 ++ ([y122.1] : List St39))]) 1 (by rw [hFH]; rfl) hFD [0, 1, 5] (by kernel_rfl) (by kernel_rfl) (by decide) (by kernel_rfl) (by kernel_rfl) (by kernel_rfl) (by kernel_rfl)) ?_
     exact PJ.cutXl [0, 2, 3, 4, 5] (by kernel_rfl) (by kernel_rfl)
 ·subst hs
  have h74 := joinX_inl h73
  refine kS ?_
  refine J.wk (Wk.freeze 2 (n := s70.2.2.length) (k := 4) (e := 40) (cs := s70.2.2.flatMap encSt39) (by kernel_rfl)) ?_
  refine J.keep [0, 2, 3, 4, 5] (L2 := [(0, .ptr 0 0), (2, .nl), (3, .bool false), (4, .vc 1), (5, lsv encSt39 4 s70.2.2)]) (by kernel_rfl) ?_
  refine K.draw (by kernel_rfl) (by kernel_rfl) (by kernel_rfl) (H2 := [.box [.str x0, .int .i64 s70.1], vecL (encL encSt39 4) 1 37 s70.2.1, .gone, .res, .res]) (by kernel_rfl) (n := 3) (by kernel_rfl) ?_
  refine kD 3 ?_
  obtain ⟨hm, h144⟩ := asrt h74
  refine RJ.rel (d := (some 52)) (ef := ⟨.vc 4, [1, 3], [(1, .gone), (4, .vec (s70.2.1.length + ([s70.2.2] : List (List St39)).length) 1 37 (s70.2.1.flatMap (encL encSt39 4) ++ ([s70.2.2] : List (List St39)).flatMap (encL encSt39 4)))]⟩) (ef' := ⟨.vc 4, [1, 3], [(1, .gone), (4, vecL (encL encSt39 4) 1 37 (s70.2.1 ++ ([s70.2.2] : List (List St39))))]⟩) (c := room (s70.2.1.length + ([s70.2.2] : List (List St39)).length)) (tr2 := [([], []), ([], []), ([], [6, 7, 6, 7]), ([2, 3, 6, 7], [2, 3, 8, 9, 8, 9])]) (H2 := [.box [.str x0, .int .i64 s70.1], .gone, .gone, vecL (encL encSt39 4) 1 37 ([s70.2.2] : List (List St39)), vecL (encL encSt39 4) 1 37 ((s70.2.1 ++ ([s70.2.2] : List (List St39))))]) (by kernel_rfl) hm (fun hc => N.app) (by kernel_rfl) ?_
  refine kD 12 ?_
  refine kEN ?_
  refine kX ?_
  refine PJ.scR ?_
  obtain rfl := oi h144
  refine PJ.wk (Wk.freeze 4 (n := ((s70.2.1 ++ ([s70.2.2] : List (List St39)))).length) (k := 1) (e := 37) (cs := ((s70.2.1 ++ ([s70.2.2] : List (List St39)))).flatMap (encL encSt39 4)) (by kernel_rfl)) ?_
  exact K.retV (H0 := [.box [.str x0, .int .i64 x1]]) [0] (.inr rfl) hFn hFH hFD (by kernel_rfl) (v1 := .tup [lsv (encL encSt39 4) 1 ((s70.2.1 ++ ([s70.2.2] : List (List St39)))), .bool ((decide (s70.1 = (x0.length : Int))))]) (by kernel_rfl) (by kernel_rfl) (by kernel_rfl) (by decide) (by kernel_rfl) (by kernel_rfl) (by kernel_rfl) (by kernel_rfl) (by kernel_rfl)
def rule_tooMany (x0 : List (List St39)) : Option (Bool) :=
 (Option.bind (loopN (fun (s333 : Int × Int) => (bif (decide (s333.2 < (x0.length : Int))) then (Option.bind (bif inR s333.2 x0.length then (loopN (fun (s610 : Int) => (bif (decide (s610 < ((nth x0 s333.2).length : Int))) then (bif inR s610 (nth x0 s333.2).length then (bif (decide (((((nth (nth x0 s333.2) s610).R_).length : Int)) > 20)) then (some (.inr (.inr (.inr (.inr true))))) else (some (.inl (IntKind.wrap .i64 (s610 + 1))))) else none) else (some (.inr (.inl ()))))) big 0) else none) (joinX fun (s604 : Unit) => (some (.inl ((IntKind.wrap .i64 (s333.1 + ((nth x0 s333.2).length : Int))), (IntKind.wrap .i64 (s333.2 + 1))))))) else (some (.inr (.inl s333.1))))) big (0, 0)) (joinX fun (s328 : Int) => (some (decide (s328 > 20)))))
theorem rule_tooMany_ok {x0 : List (List St39)} {r : Bool} (h : rule_tooMany x0 = some r) : SC Tryz.prog 28 [lsv (encL encSt39 4) 1 x0] [] (.bool r) [] := by
 refine kFn (fn := Tryz.f28) (fun F hFn hFH hFD => ?_)
 unfold rule_tooMany at h
 refine kSR ?_
 refine kC 1 [0,2] ?_
 refine kEN ?_
 refine kSR ?_
 refine kC 1 [0,2,3] ?_
 refine kEN ?_
 obtain ⟨y329, hy330, h331⟩ := bindS h
 refine K.cutX (by kernel_rfl) (fun (s328 : Int) => ([(2, .bool false), (3, .int .i64 s328)], [])) y329 ?_ (fun s328 hs => ?_)
 ·refine kSR ?_
  refine kC 3 [2,3,8,9,10] ?_
  refine kEN ?_
  refine K.block 0 (by kernel_rfl) ?_
  refine K.loop (by kernel_rfl) (fun (s333 : Int × Int) => ([(2, .bool false), (3, .int .i64 s333.1), (8, lsv (encL encSt39 4) 1 x0), (9, .int .i64 (x0.length : Int)), (10, .int .i64 s333.2)], [])) hy330 [2, 3, 8, 9, 10] (by kernel_rfl) (by kernel_rfl) (fun s333 x551 hs550 => ?_)
  refine kSR ?_
  refine kC 1 [2,3,8,9,10,11] ?_
  refine kEN ?_
  refine kS ?_
  refine J.caseB 11 (b := (decide (s333.2 < (x0.length : Int)))) (by kernel_rfl) (fun hb552 => ?_) (fun hb552 => ?_)
  ·have h553 := condT hb552 hs550
   refine kT ?_
   refine kK ?_
   refine PJ.next ?_
   obtain ⟨y605, hy606, h607⟩ := bindS h553
   refine K.cutX (by kernel_rfl) (fun (s604 : Unit) => ([(2, .bool false), (3, .int .i64 ((IntKind.wrap .i64 (s333.1 + ((nth x0 s333.2).length : Int))))), (8, lsv (encL encSt39 4) 1 x0), (9, .int .i64 (x0.length : Int)), (10, .int .i64 s333.2)], [])) y605 ?_ (fun s604 hs => ?_)
   ·refine K.block 1 (by kernel_rfl) ?_
    refine kSR ?_
    obtain ⟨hm, h609⟩ := asrt hy606
    refine RJ.rel (d := (some 12)) (ef := ⟨.ep (((x0.flatMap (encL encSt39 4)).drop ((s333.2 : Int).toNat * 1)).take 1), [], []⟩) (ef' := ⟨.ep ((encL encSt39 4) (nth x0 s333.2)), [], []⟩) (c := inR s333.2 x0.length) (tr2 := []) (H2 := []) (by kernel_rfl) hm (fun hc => N.idx (encL_len encSt39 4) hc) (by kernel_rfl) ?_
    refine kC 2 [2,3,5,8,9,10] ?_
    refine kEN ?_
    refine kSR ?_
    refine kC 5 [2,3,5,8,9,10] ?_
    refine kEN ?_
    refine kSR ?_
    refine RJ.seg 3 [2, 3, 8, 9, 10, 18, 19, 20] (L2 := [(2, .bool false), (3, .int .i64 ((IntKind.wrap .i64 (s333.1 + ((nth x0 s333.2).length : Int))))), (8, lsv (encL encSt39 4) 1 x0), (9, .int .i64 (x0.length : Int)), (10, .int .i64 s333.2), (18, lsv encSt39 4 (nth x0 s333.2)), (19, .int .i64 ((nth x0 s333.2).length : Int)), (20, .int .i64 0)]) (H2 := []) (by kernel_rfl) ?_
    refine kEN ?_
    refine K.block 2 (by kernel_rfl) ?_
    refine K.loop (by kernel_rfl) (fun (s610 : Int) => ([(2, .bool false), (3, .int .i64 ((IntKind.wrap .i64 (s333.1 + ((nth x0 s333.2).length : Int))))), (8, lsv (encL encSt39 4) 1 x0), (9, .int .i64 (x0.length : Int)), (10, .int .i64 s333.2), (18, lsv encSt39 4 (nth x0 s333.2)), (19, .int .i64 ((nth x0 s333.2).length : Int)), (20, .int .i64 s610)], [])) h609 [2, 3, 8, 9, 10, 18, 19, 20] (by kernel_rfl) (by kernel_rfl) (fun s610 x642 hs641 => ?_)
    refine kSR ?_
    refine kC 1 [2,3,8,9,10,18,19,20,21] ?_
    refine kEN ?_
    refine kS ?_
    refine J.caseB 21 (b := (decide (s610 < ((nth x0 s333.2).length : Int)))) (by kernel_rfl) (fun hb643 => ?_) (fun hb643 => ?_)
    ·have h644 := condT hb643 hs641
     refine kT ?_
     refine kK ?_
     refine PJ.next ?_
     refine kS ?_
     refine K.block 3 (by kernel_rfl) ?_
     refine kSR ?_
     obtain ⟨hm, h646⟩ := asrt h644
     refine RJ.rel (d := (some 22)) (ef := ⟨.ep ((((nth x0 s333.2).flatMap encSt39).drop ((s610 : Int).toNat * 4)).take 4), [], []⟩) (ef' := ⟨.ep (encSt39 (nth (nth x0 s333.2) s610)), [], []⟩) (c := inR s610 (nth x0 s333.2).length) (tr2 := []) (H2 := []) (by kernel_rfl) hm (fun hc => N.idx encSt39_len hc) (by kernel_rfl) ?_
     refine kC 3 [2,3,7,8,9,10,18,19,20] ?_
     refine kEN ?_
     refine kSR ?_
     refine kC 4 [2,3,8,9,10,18,19,20,27] ?_
     refine kEN ?_
     refine J.caseB 27 (b := (decide (((((nth (nth x0 s333.2) s610).R_).length : Int)) > 20))) (by kernel_rfl) (fun hb647 => ?_) (fun hb647 => ?_)
     ·have h648 := condT hb647 h646
      refine kT ?_
      refine kSR ?_
      refine RJ.seg 1 [2, 3, 8, 9, 10, 18, 19, 20] (L2 := [(2, .bool true), (3, .int .i64 ((IntKind.wrap .i64 (s333.1 + ((nth x0 s333.2).length : Int))))), (8, lsv (encL encSt39 4) 1 x0), (9, .int .i64 (x0.length : Int)), (10, .int .i64 s333.2), (18, lsv encSt39 4 (nth x0 s333.2)), (19, .int .i64 ((nth x0 s333.2).length : Int)), (20, .int .i64 s610)]) (H2 := [.box [.int .u8 ((nth (nth x0 s333.2) s610).Op_), .int .i64 ((nth (nth x0 s333.2) s610).Mod_), .bool ((nth (nth x0 s333.2) s610).Not_), lsv encSt41 2 ((nth (nth x0 s333.2) s610).R_)]]) (by kernel_rfl) ?_
      refine kEN ?_
      refine kX ?_
      refine PJ.blockRet ?_
      refine PJ.passRet ?_
      obtain rfl := oi h648
      refine PJ.loopOut (fun e => nomatch e) (fun he655 => ?_)
      have h650 := congrArg some he655
      refine PJ.blockRet ?_
      refine PJ.blockRet ?_
      obtain rfl := oi h650
      have h651 := joinX_inr h607
      refine PJ.cutXr (fun e => nomatch e) ?_
      obtain rfl := oi h651
      refine PJ.loopOut (fun e => nomatch e) (fun he654 => ?_)
      have h652 := congrArg some he654
      refine PJ.blockRet ?_
      obtain rfl := oi h652
      have h653 := joinX_inr h331
      refine PJ.cutXr (fun e => nomatch e) ?_
      obtain rfl := oi h653
      exact kZ hFn hFH hFD
     ·have h649 := condF hb647 h646
      refine kF ?_
      refine kK ?_
      refine PJ.blockNormal ?_
      refine PJ.next ?_
      refine kR ?_
      refine RJ.seg 2 [2, 3, 8, 9, 10, 18, 19, 20] (L2 := [(2, .bool false), (3, .int .i64 ((IntKind.wrap .i64 (s333.1 + ((nth x0 s333.2).length : Int))))), (8, lsv (encL encSt39 4) 1 x0), (9, .int .i64 (x0.length : Int)), (10, .int .i64 s333.2), (18, lsv encSt39 4 (nth x0 s333.2)), (19, .int .i64 ((nth x0 s333.2).length : Int)), (20, .int .i64 (IntKind.wrap .i64 (s610 + 1)))]) (H2 := [.box [.int .u8 ((nth (nth x0 s333.2) s610).Op_), .int .i64 ((nth (nth x0 s333.2) s610).Mod_), .bool ((nth (nth x0 s333.2) s610).Not_), lsv encSt41 2 ((nth (nth x0 s333.2) s610).R_)]]) (by kernel_rfl) ?_
      refine kE ?_
      obtain rfl := oi h649
      refine PJ.wk (Wk.sel (L2 := [(2, .bool false), (3, .int .i64 ((IntKind.wrap .i64 (s333.1 + ((nth x0 s333.2).length : Int))))), (8, lsv (encL encSt39 4) 1 x0), (9, .int .i64 (x0.length : Int)), (10, .int .i64 s333.2), (18, lsv encSt39 4 (nth x0 s333.2)), (19, .int .i64 ((nth x0 s333.2).length : Int)), (20, .int .i64 (IntKind.wrap .i64 (s610 + 1)))]) (H2 := []) 0 (by rw [hFH]; rfl) hFD [] (by kernel_rfl) (by kernel_rfl) (by decide) (by kernel_rfl) (by kernel_rfl) (by kernel_rfl) (by kernel_rfl)) ?_
      exact PJ.loopNext [2, 3, 8, 9, 10, 18, 19, 20] (by kernel_rfl) (by kernel_rfl)
    ·have h645 := condF hb643 hs641
     refine kF ?_
     refine K.exit 2 (by kernel_rfl) ?_
     refine PJ.passExit ?_
     obtain rfl := oi h645
     refine PJ.loopOut (fun e => nomatch e) (fun he657 => ?_)
     have h656 := congrArg some he657
     refine PJ.blockOut ?_
     refine PJ.blockNormal ?_
     obtain rfl := oi h656
     exact PJ.cutXl [2, 3, 8, 9, 10] (by kernel_rfl) (by kernel_rfl)
   ·subst hs
    have h608 := joinX_inl h607
    refine kR ?_
    refine kC 2 [2,3,8,9,10] ?_
    refine kE ?_
    obtain rfl := oi h608
    exact PJ.loopNext [2, 3, 8, 9, 10] (by kernel_rfl) (by kernel_rfl)
  ·have h554 := condF hb552 hs550
   refine kF ?_
   refine K.exit 0 (by kernel_rfl) ?_
   refine PJ.passExit ?_
   obtain rfl := oi h554
   refine PJ.loopOut (fun e => nomatch e) (fun he659 => ?_)
   have h658 := congrArg some he659
   refine PJ.blockOut ?_
   obtain rfl := oi h658
   exact PJ.cutXl [2, 3] (by kernel_rfl) (by kernel_rfl)
 ·subst hs
  have h332 := joinX_inl h331
  refine kSR ?_
  refine kC 3 [2] ?_
  refine kEN ?_
  refine kX ?_
  obtain rfl := oi h332
  exact kZ hFn hFH hFD
def rule_Parse (x0 : List UInt8) : Option ((List (List St39)) × Int × Int) :=
 (bif (decide ((x0.length : Int) > 400)) then (some (([] : List (List St39)), 0, 11)) else (Option.bind (rule_reader__rows_s0 x0 0) fun y4 => (bif (!y4.2.1) then (some (([] : List (List St39)), y4.2.2, 2)) else (Option.bind (rule_tooMany y4.1) fun y10 => (bif y10 then (some (([] : List (List St39)), 0, 11)) else (some (y4.1, 0, 0)))))))
theorem rule_Parse_ok {x0 : List UInt8} {r : (List (List St39)) × Int × Int} (h : rule_Parse x0 = some r) : SC Tryz.prog 15 [.str x0] [] (.tup [lsv (encL encSt39 4) 1 r.1, .int .i64 r.2.1, .int .i64 r.2.2]) [] := by
 refine kFn (fn := Tryz.f15) (fun F hFn hFH hFD => ?_)
 unfold rule_Parse at h
 refine kSR ?_
 refine kC 3 [0,2,3,4] ?_
 refine kEN ?_
 refine kS ?_
 refine kSR ?_
 refine kC 3 [0,2,3,4,10] ?_
 refine kEN ?_
 refine J.caseB 10 (b := (decide ((x0.length : Int) > 400))) (by kernel_rfl) (fun hb1 => ?_) (fun hb1 => ?_)
 ·have h2 := condT hb1 h
  refine kT ?_
  refine kSR ?_
  refine kC 3 [0,2,3,4] ?_
  refine kEN ?_
  refine kX ?_
  refine PJ.passRet ?_
  obtain rfl := oi h2
  refine PJ.res (v1 := .tup [.nl, .int .i64 0, .int .i64 11]) (Le.tup (.cons (Le.nl _) (.cons (Le.refl _) (.cons (Le.refl _) .nil)))) ?_
  exact kZ hFn hFH hFD
 ·have h3 := condF hb1 h
  refine kF ?_
  refine kK ?_
  refine PJ.next ?_
  refine kSR ?_
  refine kC 4 [2,3,4,5] ?_
  refine kEN ?_
  refine kSR ?_
  refine RJ.seg 1 [2, 3, 4, 5, 15] (L2 := [(2, .nl), (3, .int .i64 0), (4, .int .i64 0), (5, .ptr 0 0), (15, .ptr 0 0)]) (H2 := [.box [.str x0, .int .i64 0]]) (by kernel_rfl) ?_
  obtain ⟨y4, hy5, h6⟩ := bindS h3
  refine RJ.callG (d := (some 16)) (f := 27) (args := [.ptr 0 0]) (args0 := [.ptr 0 0]) (v0 := .tup [lsv (encL encSt39 4) 1 y4.1, .bool y4.2.1]) (v := .tup [lsv (encL encSt39 4) 1 y4.1, .bool y4.2.1]) (tr2 := []) (H0 := [.box [.str x0, .int .i64 0]]) (H0' := [.box [.str x0, .int .i64 y4.2.2]]) (H2 := [.box [.str x0, .int .i64 y4.2.2]]) [0] (by kernel_rfl) (by kernel_rfl) (by kernel_rfl) (by kernel_rfl) (by decide) (by kernel_rfl) (by kernel_rfl) (by kernel_rfl) (.cons (Le.refl _) .nil) (rule_reader__rows_s0_ok hy5) (by kernel_rfl) (by kernel_rfl) (by kernel_rfl) ?_
  refine kC 5 [2,3,4,5,6,7] ?_
  refine kEN ?_
  refine kS ?_
  refine kSR ?_
  refine kC 2 [2,3,4,5,6,20] ?_
  refine kEN ?_
  refine J.caseB 20 (b := (!y4.2.1)) (by kernel_rfl) (fun hb7 => ?_) (fun hb7 => ?_)
  ·have h8 := condT hb7 h6
   refine kT ?_
   refine kS ?_
   refine J.keep [2, 3, 4, 5, 6] (L2 := [(2, .nl), (3, .int .i64 0), (4, .int .i64 0), (5, .ptr 0 0), (6, lsv (encL encSt39 4) 1 y4.1)]) (by kernel_rfl) ?_
   refine K.draw (by kernel_rfl) (by kernel_rfl) (by kernel_rfl) (H2 := [.box [.str x0, .int .i64 y4.2.2]]) (by kernel_rfl) (n := 1) (by kernel_rfl) ?_
   refine kD 7 ?_
   refine kEN ?_
   refine kX ?_
   refine PJ.passRet ?_
   obtain rfl := oi h8
   refine PJ.res (v1 := .tup [.nl, .int .i64 y4.2.2, .int .i64 2]) (Le.tup (.cons (Le.nl _) (.cons (Le.refl _) (.cons (Le.refl _) .nil)))) ?_
   exact kZ hFn hFH hFD
  ·have h9 := condF hb7 h6
   refine kF ?_
   refine kK ?_
   refine PJ.next ?_
   refine kS ?_
   refine kSR ?_
   refine kC 1 [2,3,4,6,25] ?_
   obtain ⟨y10, hy11, h12⟩ := bindS h9
   refine RJ.call0 (d := (some 26)) (f := 28) (args := [lsv (encL encSt39 4) 1 y4.1]) (v := .bool y10) (tr2 := []) (by kernel_rfl) (by kernel_rfl) (.cons (Le.refl _) .nil) (rule_tooMany_ok hy11) (by kernel_rfl) ?_
   refine kEN ?_
   refine J.caseB 26 (b := y10) (by kernel_rfl) (fun hb13 => ?_) (fun hb13 => ?_)
   ·have h14 := condT hb13 h12
    refine kT ?_
    refine kSR ?_
    refine RJ.seg 3 [2, 3, 4, 6] (L2 := [(2, .nl), (3, .int .i64 0), (4, .int .i64 11), (6, lsv (encL encSt39 4) 1 y4.1)]) (H2 := [.box [.str x0, .int .i64 y4.2.2]]) (by kernel_rfl) ?_
    refine kEN ?_
    refine kX ?_
    refine PJ.passRet ?_
    obtain rfl := oi h14
    refine PJ.res (v1 := .tup [.nl, .int .i64 0, .int .i64 11]) (Le.tup (.cons (Le.nl _) (.cons (Le.refl _) (.cons (Le.refl _) .nil)))) ?_
    exact kZ hFn hFH hFD
   ·have h15 := condF hb13 h12
    refine kF ?_
    refine kK ?_
    refine PJ.next ?_
    refine kSR ?_
    refine RJ.seg 4 [2, 3, 4] (L2 := [(2, lsv (encL encSt39 4) 1 y4.1), (3, .int .i64 0), (4, .int .i64 0)]) (H2 := [.box [.str x0, .int .i64 y4.2.2]]) (by kernel_rfl) ?_
    refine kEN ?_
    refine kX ?_
    obtain rfl := oi h15
    exact kZ hFn hFH hFD
def rule_asks_s0 (x0 : St25) : Option (Unit) :=
 (some ())
theorem rule_asks_s0_ok {x0 : St25} {r : Unit} (h : rule_asks_s0 x0 = some r) : SC Tryz.prog 25 [.agg (encSt25 x0)] [] (.fn (.func 34) [] [.ptr 0 0]) [.box (encSt25 x0)] := by
 refine kFn (fn := Tryz.f25) (fun F hFn hFH hFD => ?_)
 unfold rule_asks_s0 at h
 refine kSR ?_
 refine kC 2 [1] ?_
 refine kEN ?_
 refine kSR ?_
 refine kC 2 [2] ?_
 refine kEN ?_
 refine kX ?_
 obtain rfl := oi h
 exact K.retV (H0 := []) [0] (.inr rfl) hFn hFH hFD (by kernel_rfl) (v1 := .fn (.func 34) [] [.ptr 0 0]) (by kernel_rfl) (by kernel_rfl) (by kernel_rfl) (by decide) (by kernel_rfl) (by kernel_rfl) (by kernel_rfl) (by kernel_rfl) (by kernel_rfl)
def oper_figures (x0 : List Int) : Option (Bool) :=
 (Option.bind (loopN (fun (s45 : Int) => (bif (decide (s45 < (x0.length : Int))) then (bif inR s45 x0.length then (bif (decide ((nth x0 s45) > 9)) then (some (.inr (.inr false))) else (some (.inl (IntKind.wrap .i64 (s45 + 1))))) else none) else (some (.inr (.inl ()))))) big 0) (joinX fun (s40 : Unit) => (some true)))
theorem oper_figures_ok {x0 : List Int} {r : Bool} (h : oper_figures x0 = some r) : SC Tryz.prog 65 [lsv (encI .u8) 1 x0] [] (.bool r) [] := by
 refine kFn (fn := Tryz.f65) (fun F hFn hFH hFD => ?_)
 unfold oper_figures at h
 refine kSR ?_
 refine kC 1 [0,2] ?_
 refine kEN ?_
 obtain ⟨y41, hy42, h43⟩ := bindS h
 refine K.cutX (by kernel_rfl) (fun (s40 : Unit) => ([(2, .bool false)], [])) y41 ?_ (fun s40 hs => ?_)
 ·refine kSR ?_
  refine kC 3 [2,5,6,7] ?_
  refine kEN ?_
  refine K.block 0 (by kernel_rfl) ?_
  refine K.loop (by kernel_rfl) (fun (s45 : Int) => ([(2, .bool false), (5, lsv (encI .u8) 1 x0), (6, .int .i64 (x0.length : Int)), (7, .int .i64 s45)], [])) hy42 [2, 5, 6, 7] (by kernel_rfl) (by kernel_rfl) (fun s45 x71 hs70 => ?_)
  refine kSR ?_
  refine kC 1 [2,5,6,7,8] ?_
  refine kEN ?_
  refine kS ?_
  refine J.caseB 8 (b := (decide (s45 < (x0.length : Int)))) (by kernel_rfl) (fun hb72 => ?_) (fun hb72 => ?_)
  ·have h73 := condT hb72 hs70
   refine kT ?_
   refine kK ?_
   refine PJ.next ?_
   refine kS ?_
   refine K.block 1 (by kernel_rfl) ?_
   refine kSR ?_
   obtain ⟨hm, h75⟩ := asrt h73
   refine RJ.rel (d := (some 9)) (ef := ⟨.ep (((x0.flatMap (encI .u8)).drop ((s45 : Int).toNat * 1)).take 1), [], []⟩) (ef' := ⟨.ep ((encI .u8) (nth x0 s45)), [], []⟩) (c := inR s45 x0.length) (tr2 := []) (H2 := []) (by kernel_rfl) hm (fun hc => N.idx (encI_len .u8) hc) (by kernel_rfl) ?_
   refine kC 2 [2,4,5,6,7] ?_
   refine kEN ?_
   refine kSR ?_
   refine kC 2 [2,5,6,7,12] ?_
   refine kEN ?_
   refine J.caseB 12 (b := (decide ((nth x0 s45) > 9))) (by kernel_rfl) (fun hb76 => ?_) (fun hb76 => ?_)
   ·have h77 := condT hb76 h75
    refine kT ?_
    refine kSR ?_
    refine RJ.seg 1 [2, 5, 6, 7] (L2 := [(2, .bool false), (5, lsv (encI .u8) 1 x0), (6, .int .i64 (x0.length : Int)), (7, .int .i64 s45)]) (H2 := []) (by kernel_rfl) ?_
    refine kEN ?_
    refine kX ?_
    refine PJ.blockRet ?_
    refine PJ.passRet ?_
    obtain rfl := oi h77
    refine PJ.loopOut (fun e => nomatch e) (fun he81 => ?_)
    have h79 := congrArg some he81
    refine PJ.blockRet ?_
    obtain rfl := oi h79
    have h80 := joinX_inr h43
    refine PJ.cutXr (fun e => nomatch e) ?_
    obtain rfl := oi h80
    exact kZ hFn hFH hFD
   ·have h78 := condF hb76 h75
    refine kF ?_
    refine kK ?_
    refine PJ.blockNormal ?_
    refine PJ.next ?_
    refine kR ?_
    refine RJ.seg 2 [2, 5, 6, 7] (L2 := [(2, .bool false), (5, lsv (encI .u8) 1 x0), (6, .int .i64 (x0.length : Int)), (7, .int .i64 (IntKind.wrap .i64 (s45 + 1)))]) (H2 := []) (by kernel_rfl) ?_
    refine kE ?_
    obtain rfl := oi h78
    exact PJ.loopNext [2, 5, 6, 7] (by kernel_rfl) (by kernel_rfl)
  ·have h74 := condF hb72 hs70
   refine kF ?_
   refine K.exit 0 (by kernel_rfl) ?_
   refine PJ.passExit ?_
   obtain rfl := oi h74
   refine PJ.loopOut (fun e => nomatch e) (fun he83 => ?_)
   have h82 := congrArg some he83
   refine PJ.blockOut ?_
   obtain rfl := oi h82
   exact PJ.cutXl [2] (by kernel_rfl) (by kernel_rfl)
 ·subst hs
  have h44 := joinX_inl h43
  refine kSR ?_
  refine kC 1 [2] ?_
  refine kEN ?_
  refine kX ?_
  obtain rfl := oi h44
  exact kZ hFn hFH hFD
def oper_shown (x0 : List Int) : Option (Int) :=
 (Option.bind (loopN (fun (s138 : Int) => (Option.bind (Option.bind (bif (decide (s138 > 0)) then (bif inR (IntKind.wrap .i64 (s138 - 1)) x0.length then (some ((decide (((nth x0 (IntKind.wrap .i64 (s138 - 1)))) = 0)))) else none) else (some false)) fun (s255 : Bool) => (bif s255 then (some (.inl ())) else (some (.inr (.inr s138))))) (joinX fun (s246 : Unit) => (some (.inl (IntKind.wrap .i64 (s138 - 1))))))) big (x0.length : Int)) fun (s133 : Int) => (some s133))
theorem oper_shown_ok {x0 : List Int} {r : Int} (h : oper_shown x0 = some r) : SC Tryz.prog 66 [lsv (encI .u8) 1 x0] [] (.int .i64 r) [] := by
 refine kFn (fn := Tryz.f66) (fun F hFn hFH hFD => ?_)
 unfold oper_shown at h
 refine kSR ?_
 refine kC 1 [0,2] ?_
 refine kEN ?_
 refine kSR ?_
 refine kC 3 [0,2,3] ?_
 refine kEN ?_
 obtain ⟨s133, hy135, h137⟩ := bindS h
 refine K.cutN (by kernel_rfl) (fun (s133 : Int) => ([(2, .int .i64 0), (3, .int .i64 s133)], [])) s133 ?_ ?_
 ·refine K.block 0 (by kernel_rfl) ?_
  refine K.loop (by kernel_rfl) (fun (s138 : Int) => ([(0, lsv (encI .u8) 1 x0), (2, .int .i64 0), (3, .int .i64 s138)], [])) hy135 [0, 2, 3] (by kernel_rfl) (by kernel_rfl) (fun s138 x226 hs225 => ?_)
  obtain ⟨y247, hy248, h249⟩ := bindS hs225
  refine K.cutX (by kernel_rfl) (fun (s246 : Unit) => ([(0, lsv (encI .u8) 1 x0), (2, .int .i64 0), (3, .int .i64 s138)], [])) y247 ?_ (fun s246 hs => ?_)
  ·obtain ⟨s255, hy257, h259⟩ := bindS hy248
   refine K.cutN (by kernel_rfl) (fun (s255 : Bool) => ([(0, lsv (encI .u8) 1 x0), (2, .int .i64 0), (3, .int .i64 s138), (15, .bool s255)], [])) s255 ?_ ?_
   ·refine kR ?_
    refine kC 3 [0,2,3,8] ?_
    refine RJ.caseB 8 (b := (decide (s138 > 0))) (by kernel_rfl) (fun hb260 => ?_) (fun hb260 => ?_)
    ·have h261 := condT hb260 hy257
     refine kC 3 [0,2,3,8,9,11] ?_
     obtain ⟨hm, h263⟩ := asrt h261
     refine RJ.rel (d := (some 12)) (ef := ⟨.ep (((x0.flatMap (encI .u8)).drop (((IntKind.wrap .i64 (s138 - 1)) : Int).toNat * 1)).take 1), [], []⟩) (ef' := ⟨.ep ((encI .u8) (nth x0 (IntKind.wrap .i64 (s138 - 1)))), [], []⟩) (c := inR (IntKind.wrap .i64 (s138 - 1)) x0.length) (tr2 := []) (H2 := []) (by kernel_rfl) hm (fun hc => N.idx (encI_len .u8) hc) (by kernel_rfl) ?_
     refine kC 3 [0,2,3,15] ?_
     refine kE ?_
     obtain rfl := oi h263
     exact kN [0, 2, 3, 15]
    ·have h262 := condF hb260 hy257
     refine kC 7 [0,2,3,15] ?_
     refine kE ?_
     obtain rfl := oi h262
     exact kN [0, 2, 3, 15]
   ·refine J.caseB 15 (b := s255) (by kernel_rfl) (fun hb264 => ?_) (fun hb264 => ?_)
    ·have h265 := condT hb264 h259
     refine kT ?_
     refine kK ?_
     obtain rfl := oi h265
     exact PJ.cutXl [0, 2, 3] (by kernel_rfl) (by kernel_rfl)
    ·have h266 := condF hb264 h259
     refine kF ?_
     refine K.exit 0 (by kernel_rfl) ?_
     obtain rfl := oi h266
     have h267 := joinX_inr h249
     refine PJ.cutXr (fun e => nomatch e) ?_
     obtain rfl := oi h267
     refine PJ.loopOut (fun e => nomatch e) (fun he269 => ?_)
     have h268 := congrArg some he269
     refine PJ.blockOut ?_
     obtain rfl := oi h268
     exact kN [2, 3]
  ·subst hs
   have h250 := joinX_inl h249
   refine K.block 1 (by kernel_rfl) ?_
   refine kR ?_
   refine kC 3 [0,2,3] ?_
   refine kE ?_
   refine PJ.blockNormal ?_
   obtain rfl := oi h250
   exact PJ.loopNext [0, 2, 3] (by kernel_rfl) (by kernel_rfl)
 ·refine kSR ?_
  refine kC 2 [2] ?_
  refine kEN ?_
  refine kX ?_
  obtain rfl := oi h137
  exact kZ hFn hFH hFD
def oper_Right (x0 : St25) : Option (Bool) :=
 (Option.bind (Option.bind (Option.bind (oper_figures x0.I_) fun y68 => (bif (!y68) then (some true) else (Option.bind (oper_figures x0.F_) fun y74 => (bif (!y74) then (some true) else (bif (decide ((x0.I_.length : Int) > 0)) then (bif inR 0 x0.I_.length then (some ((decide ((nth x0.I_ 0) = 0)))) else none) else (some false)))))) fun (s63 : Bool) => (bif s63 then (some (.inr false)) else (some (.inl ())))) (joinX fun (s42 : Unit) => (Option.bind (Option.bind (oper_shown x0.F_) fun y102 => (bif (decide (x0.W_ = y102)) then (bif (decide (x0.C_ ≥ 0)) then (some (decide (x0.C_ ≤ 1000))) else (some false)) else (some false))) fun (s97 : Bool) => (some s97))))
theorem oper_Right_ok {x0 : St25} {r : Bool} (h : oper_Right x0 = some r) : SC Tryz.prog 49 [.agg (encSt25 x0)] [] (.bool r) [] := by
 refine kFn (fn := Tryz.f49) (fun F hFn hFH hFD => ?_)
 unfold oper_Right at h
 refine kSR ?_
 refine kC 2 [1,2] ?_
 refine kEN ?_
 obtain ⟨y43, hy44, h45⟩ := bindS h
 refine K.cutX (by kernel_rfl) (fun (s42 : Unit) => ([(1, .ptr 0 0), (2, .bool false)], [.box (encSt25 x0)])) y43 ?_ (fun s42 hs => ?_)
 ·obtain ⟨s63, hy65, h67⟩ := bindS hy44
  refine K.cutN (by kernel_rfl) (fun (s63 : Bool) => ([(1, .ptr 0 0), (2, .bool false), (25, .bool s63)], [.box (encSt25 x0)])) s63 ?_ ?_
  ·refine kR ?_
   refine kC 2 [1,2,4] ?_
   obtain ⟨y68, hy69, h70⟩ := bindS hy65
   refine RJ.call0 (d := (some 5)) (f := 65) (args := [lsv (encI .u8) 1 x0.I_]) (v := .bool y68) (tr2 := []) (by kernel_rfl) (by kernel_rfl) (.cons (Le.refl _) .nil) (oper_figures_ok hy69) (by kernel_rfl) ?_
   refine kC 2 [1,2,7] ?_
   refine RJ.caseB 7 (b := (!y68)) (by kernel_rfl) (fun hb71 => ?_) (fun hb71 => ?_)
   ·have h72 := condT hb71 h70
    refine RJ.seg 18 [1, 2, 25] (L2 := [(1, .ptr 0 0), (2, .bool false), (25, .bool true)]) (H2 := [.box (encSt25 x0)]) (by kernel_rfl) ?_
    refine kE ?_
    obtain rfl := oi h72
    exact kN [1, 2, 25]
   ·have h73 := condF hb71 h70
    refine RJ.seg 2 [1, 2, 7, 9] (L2 := [(1, .ptr 0 0), (2, .bool false), (7, .bool false), (9, lsv (encI .u8) 1 x0.F_)]) (H2 := [.box (encSt25 x0)]) (by kernel_rfl) ?_
    obtain ⟨y74, hy75, h76⟩ := bindS h73
    refine RJ.call0 (d := (some 10)) (f := 65) (args := [lsv (encI .u8) 1 x0.F_]) (v := .bool y74) (tr2 := []) (by kernel_rfl) (by kernel_rfl) (.cons (Le.refl _) .nil) (oper_figures_ok hy75) (by kernel_rfl) ?_
    refine kC 3 [1,2,13] ?_
    refine RJ.caseB 13 (b := (!y74)) (by kernel_rfl) (fun hb77 => ?_) (fun hb77 => ?_)
    ·have h78 := condT hb77 h76
     refine kC 12 [1,2,25] ?_
     refine kE ?_
     obtain rfl := oi h78
     exact kN [1, 2, 25]
    ·have h79 := condF hb77 h76
     refine kC 5 [1,2,13,18] ?_
     refine RJ.caseB 18 (b := (decide ((x0.I_.length : Int) > 0))) (by kernel_rfl) (fun hb80 => ?_) (fun hb80 => ?_)
     ·have h81 := condT hb80 h79
      refine kC 2 [1,2,13,18,20] ?_
      obtain ⟨hm, h83⟩ := asrt h81
      refine RJ.rel (d := (some 21)) (ef := ⟨.ep (((x0.I_.flatMap (encI .u8)).drop ((0 : Int).toNat * 1)).take 1), [], []⟩) (ef' := ⟨.ep ((encI .u8) (nth x0.I_ 0)), [], []⟩) (c := inR 0 x0.I_.length) (tr2 := []) (H2 := [.box (encSt25 x0)]) (by kernel_rfl) hm (fun hc => N.idx (encI_len .u8) hc) (by kernel_rfl) ?_
      refine RJ.seg 4 [1, 2, 25] (L2 := [(1, .ptr 0 0), (2, .bool false), (25, .bool ((decide ((nth x0.I_ 0) = 0))))]) (H2 := [.box (encSt25 x0)]) (by kernel_rfl) ?_
      refine kE ?_
      obtain rfl := oi h83
      exact kN [1, 2, 25]
     ·have h82 := condF hb80 h79
      refine kC 7 [1,2,25] ?_
      refine kE ?_
      obtain rfl := oi h82
      exact kN [1, 2, 25]
  ·refine J.caseB 25 (b := s63) (by kernel_rfl) (fun hb84 => ?_) (fun hb84 => ?_)
   ·have h85 := condT hb84 h67
    refine kT ?_
    refine kSR ?_
    refine kC 1 [1,2] ?_
    refine kEN ?_
    refine kX ?_
    obtain rfl := oi h85
    have h87 := joinX_inr h45
    refine PJ.cutXr (fun e => nomatch e) ?_
    obtain rfl := oi h87
    exact kZ hFn hFH hFD
   ·have h86 := condF hb84 h67
    refine kF ?_
    refine kK ?_
    obtain rfl := oi h86
    exact PJ.cutXl [1, 2] (by kernel_rfl) (by kernel_rfl)
 ·subst hs
  have h46 := joinX_inl h45
  obtain ⟨s97, hy99, h101⟩ := bindS h46
  refine K.cutN (by kernel_rfl) (fun (s97 : Bool) => ([(2, .bool s97)], [])) s97 ?_ ?_
  ·refine J.keep [1, 2] (L2 := [(1, .ptr 0 0), (2, .bool false)]) (by kernel_rfl) ?_
   refine K.draw (by kernel_rfl) (by kernel_rfl) (by kernel_rfl) (H2 := [.box (encSt25 x0), .res]) (by kernel_rfl) (n := 1) (by kernel_rfl) ?_
   refine kD 4 ?_
   obtain ⟨y102, hy103, h104⟩ := bindS hy99
   refine RJ.call0 (d := (some 30)) (f := 66) (args := [lsv (encI .u8) 1 x0.F_]) (v := .int .i64 y102) (tr2 := [([], []), ([0, 1], []), ([], []), ([0, 1], []), ([], [2, 3])]) (by kernel_rfl) (by kernel_rfl) (.cons (Le.refl _) .nil) (oper_shown_ok hy103) (by kernel_rfl) ?_
   refine kD 2 ?_
   refine RJ.caseB 32 (b := (decide (x0.W_ = y102))) (by kernel_rfl) (fun hb105 => ?_) (fun hb105 => ?_)
   ·have h106 := condT hb105 h104
    refine kD 5 ?_
    refine RJ.caseB 37 (b := (decide (x0.C_ ≥ 0))) (by kernel_rfl) (fun hb108 => ?_) (fun hb108 => ?_)
    ·have h109 := condT hb108 h106
     refine RJ.segD 5 (tr2 := [([], []), ([0, 1], []), ([], []), ([0, 1], []), ([], [2, 3]), ([], []), ([], []), ([], []), ([0, 1], []), ([], []), ([], []), ([], []), ([], []), ([0, 1], []), ([], []), ([], []), ([], [])]) (L2 := [(2, .bool (decide (x0.C_ ≤ 1000))), (41, .bool (decide (x0.C_ ≤ 1000))), (40, .bool (decide (x0.C_ ≤ 1000))), (39, .int .i64 x0.C_), (38, .ptr 0 3), (37, .bool true), (37, .bool (decide (x0.C_ ≥ 0))), (36, .bool (decide (x0.C_ ≥ 0))), (35, .bool (decide (x0.C_ ≥ 0))), (34, .int .i64 x0.C_), (33, .ptr 0 3), (32, .bool true), (32, .bool (decide (x0.W_ = y102))), (31, .bool (decide (x0.W_ = y102))), (30, .int .i64 y102), (29, lsv (encI .u8) 1 x0.F_), (28, .ptr 0 1), (27, .int .i64 x0.W_), (26, .ptr 0 2), (1, .ptr 0 0), (2, .bool false)]) (H2 := [.box (encSt25 x0), .res]) (by kernel_rfl) ?_
     refine kE ?_
     obtain rfl := oi h109
     refine PJ.wk (Wk.sel (L2 := [(2, .bool (decide (x0.C_ ≤ 1000)))]) (H2 := []) 0 (by rw [hFH]; rfl) hFD [] (by kernel_rfl) (by kernel_rfl) (by decide) (by kernel_rfl) (by kernel_rfl) (by kernel_rfl) (by kernel_rfl)) ?_
     exact kN [2]
    ·have h110 := condF hb108 h106
     refine RJ.segD 5 (tr2 := [([], []), ([0, 1], []), ([], []), ([0, 1], []), ([], [2, 3]), ([], []), ([], []), ([], []), ([0, 1], []), ([], []), ([], []), ([], []), ([], []), ([], []), ([], []), ([], []), ([], [])]) (L2 := [(2, .bool false), (41, .bool false), (40, .tup []), (39, .tup []), (38, .tup []), (37, .bool false), (37, .bool (decide (x0.C_ ≥ 0))), (36, .bool (decide (x0.C_ ≥ 0))), (35, .bool (decide (x0.C_ ≥ 0))), (34, .int .i64 x0.C_), (33, .ptr 0 3), (32, .bool true), (32, .bool (decide (x0.W_ = y102))), (31, .bool (decide (x0.W_ = y102))), (30, .int .i64 y102), (29, lsv (encI .u8) 1 x0.F_), (28, .ptr 0 1), (27, .int .i64 x0.W_), (26, .ptr 0 2), (1, .ptr 0 0), (2, .bool false)]) (H2 := [.box (encSt25 x0), .res]) (by kernel_rfl) ?_
     refine kE ?_
     obtain rfl := oi h110
     refine PJ.wk (Wk.sel (L2 := [(2, .bool false)]) (H2 := []) 0 (by rw [hFH]; rfl) hFD [] (by kernel_rfl) (by kernel_rfl) (by decide) (by kernel_rfl) (by kernel_rfl) (by kernel_rfl) (by kernel_rfl)) ?_
     exact kN [2]
   ·have h107 := condF hb105 h104
    refine kD 10 ?_
    refine kE ?_
    obtain rfl := oi h107
    refine PJ.wk (Wk.sel (L2 := [(2, .bool false)]) (H2 := []) 0 (by rw [hFH]; rfl) hFD [] (by kernel_rfl) (by kernel_rfl) (by decide) (by kernel_rfl) (by kernel_rfl) (by kernel_rfl) (by kernel_rfl)) ?_
    exact kN [2]
  ·refine kX ?_
   obtain rfl := oi h101
   exact kZ hFn hFH hFD
structure St85 where
 Oper_ : St25
 deriving Inhabited, DecidableEq
def encSt85 (x : St85) : List SV := [lsv (encI .u8) 1 x.Oper_.I_, lsv (encI .u8) 1 x.Oper_.F_, .int .i64 x.Oper_.W_, .int .i64 x.Oper_.C_]
theorem encSt85_len (x : St85) : (encSt85 x).length = 4 := rfl
def oper_asked__operands_s0 (x0 : St85) : Option (Unit) :=
 (some ())
theorem oper_asked__operands_s0_ok {x0 : St85} {r : Unit} (h : oper_asked__operands_s0 x0 = some r) : SC Tryz.prog 50 [.agg (encSt85 x0)] [] (.mp 0) [.map [(.int .u8 110, .fn (.func 67) [.agg (encSt85 x0)] []), (.int .u8 105, .fn (.func 68) [.agg (encSt85 x0)] []), (.int .u8 118, .fn (.func 69) [.agg (encSt85 x0)] []), (.int .u8 119, .fn (.func 70) [.agg (encSt85 x0)] []), (.int .u8 102, .fn (.func 71) [.agg (encSt85 x0)] []), (.int .u8 116, .fn (.func 72) [.agg (encSt85 x0)] []), (.int .u8 99, .fn (.func 73) [.agg (encSt85 x0)] []), (.int .u8 101, .fn (.func 73) [.agg (encSt85 x0)] [])]] := by
 refine kFn (fn := Tryz.f50) (fun F hFn hFH hFD => ?_)
 unfold oper_asked__operands_s0 at h
 refine kSR ?_
 refine kC 2 [1] ?_
 refine kEN ?_
 refine kSR ?_
 refine kC 27 [2] ?_
 refine kEN ?_
 refine kX ?_
 obtain rfl := oi h
 exact K.retV (H0 := []) [1] (.inr rfl) hFn hFH hFD (by kernel_rfl) (v1 := .mp 1) (by kernel_rfl) (by kernel_rfl) (by kernel_rfl) (by decide) (by kernel_rfl) (by kernel_rfl) (by kernel_rfl) (by kernel_rfl) (by kernel_rfl)
def slices_Clone (x0 : List Int) : Option (List Int) :=
 (bif (Nat.beq x0.length 0) then agree (some ([] : List Int)) (bif room x0.length then (some x0) else none) else (bif room x0.length then (some x0) else none))
theorem slices_Clone_ok {x0 : List Int} {r : List Int} (h : slices_Clone x0 = some r) : SC Tryz.prog 82 [lsv (encI .u8) 1 x0] [] (lsv (encI .u8) 1 r) [] := by
 refine kFn (fn := Tryz.f82) (fun F hFn hFH hFD => ?_)
 unfold slices_Clone at h
 refine kSR ?_
 refine kC 1 [0,2] ?_
 refine kEN ?_
 refine kS ?_
 refine kSR ?_
 refine kC 1 [0,2,3] ?_
 refine RJ.isNil (d := 4) (n := x0.length) (eq := true) (by kernel_rfl) (fun b hb3 => ?_)
 cases b
 ·have h2 := agreeF h
  refine kEN ?_
  refine kF ?_
  refine kK ?_
  refine PJ.next ?_
  refine kSR ?_
  refine kC 2 [2,5,6] ?_
  obtain ⟨hm, h4⟩ := asrt h2
  refine RJ.rel (d := (some 7)) (ef := ⟨.vc 0, [], [(0, .vec x0.length 1 5 (x0.flatMap (encI .u8)))]⟩) (ef' := ⟨.vc 0, [], [(0, .vec x0.length 1 5 (x0.flatMap (encI .u8)))]⟩) (c := roomB x0.length) (tr2 := []) (H2 := [vecL (encI .u8) 1 5 x0]) (by kernel_rfl) (roomB_of_room hm) (fun hc => rfl) (by kernel_rfl) ?_
  refine RJ.seg 1 [2] (L2 := [(2, .vc 0)]) (H2 := [vecL (encI .u8) 1 5 x0]) (by kernel_rfl) ?_
  refine kEN ?_
  refine kX ?_
  obtain rfl := oi h4
  refine PJ.wk (Wk.freeze 0 (n := x0.length) (k := 1) (e := 5) (cs := x0.flatMap (encI .u8)) (by kernel_rfl)) ?_
  exact kZ hFn hFH hFD
 ·have h1 := agreeT (by rw [hb3 rfl]; rfl) h
  refine kEN ?_
  refine kT ?_
  refine kSR ?_
  refine kC 1 [0,2] ?_
  refine kEN ?_
  refine kX ?_
  refine PJ.passRet ?_
  obtain rfl := oi h1
  refine PJ.res (v1 := .nl) (Le.nl _) ?_
  exact kZ hFn hFH hFD
def oper_asked__number (x0 : St85) : Option ((List Int) × Bool) :=
 (bif (decide (x0.Oper_.W_ > 0)) then (some (([] : List Int), false)) else (Option.bind (slices_Clone x0.Oper_.I_) fun y4 => (some (y4, true))))
theorem oper_asked__number_ok {x0 : St85} {r : (List Int) × Bool} (h : oper_asked__number x0 = some r) : SC Tryz.prog 67 [.agg (encSt85 x0)] [] (.tup [lsv (encI .u8) 1 r.1, .bool r.2]) [] := by
 refine kFn (fn := Tryz.f67) (fun F hFn hFH hFD => ?_)
 unfold oper_asked__number at h
 refine kSR ?_
 refine kC 3 [1,2,3] ?_
 refine kEN ?_
 refine kS ?_
 refine kSR ?_
 refine kC 4 [1,2,3,7] ?_
 refine kEN ?_
 refine J.caseB 7 (b := (decide (x0.Oper_.W_ > 0))) (by kernel_rfl) (fun hb1 => ?_) (fun hb1 => ?_)
 ·have h2 := condT hb1 h
  refine kT ?_
  refine kSR ?_
  refine kC 2 [1,2,3] ?_
  refine kEN ?_
  refine kX ?_
  refine PJ.passRet ?_
  obtain rfl := oi h2
  refine PJ.res (v1 := .tup [.nl, .bool false]) (Le.tup (.cons (Le.nl _) (.cons (Le.refl _) .nil))) ?_
  exact kZ hFn hFH hFD
 ·have h3 := condF hb1 h
  refine kF ?_
  refine kK ?_
  refine PJ.next ?_
  refine kSR ?_
  refine kC 3 [2,3,10] ?_
  obtain ⟨y4, hy5, h6⟩ := bindS h3
  refine RJ.call0 (d := (some 11)) (f := 82) (args := [lsv (encI .u8) 1 x0.Oper_.I_]) (v := lsv (encI .u8) 1 y4) (tr2 := []) (by kernel_rfl) (by kernel_rfl) (.cons (Le.refl _) .nil) (slices_Clone_ok hy5) (by kernel_rfl) ?_
  refine RJ.seg 2 [2, 3] (L2 := [(2, lsv (encI .u8) 1 y4), (3, .bool true)]) (H2 := [.box (encSt85 x0)]) (by kernel_rfl) ?_
  refine kEN ?_
  refine kX ?_
  obtain rfl := oi h6
  exact kZ hFn hFH hFD
def oper_asked__whole (x0 : St85) : Option ((List Int) × Bool) :=
 (Option.bind (slices_Clone x0.Oper_.I_) fun y1 => (some (y1, true)))
theorem oper_asked__whole_ok {x0 : St85} {r : (List Int) × Bool} (h : oper_asked__whole x0 = some r) : SC Tryz.prog 68 [.agg (encSt85 x0)] [] (.tup [lsv (encI .u8) 1 r.1, .bool r.2]) [] := by
 refine kFn (fn := Tryz.f68) (fun F hFn hFH hFD => ?_)
 unfold oper_asked__whole at h
 refine kSR ?_
 refine kC 3 [1,2,3] ?_
 refine kEN ?_
 refine kSR ?_
 refine kC 3 [2,3,6] ?_
 obtain ⟨y1, hy2, h3⟩ := bindS h
 refine RJ.call0 (d := (some 7)) (f := 82) (args := [lsv (encI .u8) 1 x0.Oper_.I_]) (v := lsv (encI .u8) 1 y1) (tr2 := []) (by kernel_rfl) (by kernel_rfl) (.cons (Le.refl _) .nil) (slices_Clone_ok hy2) (by kernel_rfl) ?_
 refine kC 2 [2,3] ?_
 refine kEN ?_
 refine kX ?_
 obtain rfl := oi h3
 exact kZ hFn hFH hFD
def slices_Reverse_s0 (x0 : List Int) : Option ((List Int)) :=
 (loopN (fun (s1 : Int × Int × (List Int)) => (bif (decide (s1.1 < s1.2.1)) then (bif inR s1.2.1 s1.2.2.length then (bif inR s1.2.1 s1.2.2.length then (bif inR s1.1 s1.2.2.length then (bif inR s1.1 s1.2.2.length then (bif inR s1.1 s1.2.2.length then (bif inR s1.1 s1.2.2.length then (bif inR s1.2.1 (setAt s1.2.2 s1.1 (nth s1.2.2 s1.2.1)).length then (bif inR s1.2.1 (setAt s1.2.2 s1.1 (nth s1.2.2 s1.2.1)).length then (some (.inl ((IntKind.wrap .i64 (s1.1 + 1)), (IntKind.wrap .i64 (s1.2.1 - 1)), (setAt (setAt s1.2.2 s1.1 (nth s1.2.2 s1.2.1)) s1.2.1 (nth s1.2.2 s1.1))))) else none) else none) else none) else none) else none) else none) else none) else none) else (some (.inr s1.2.2)))) big (0, (IntKind.wrap .i64 ((x0.length : Int) - 1)), x0))
theorem slices_Reverse_s0_ok {x0 : List Int} {r : (List Int)} (h : slices_Reverse_s0 x0 = some r) : SC Tryz.prog 93 [.vc 0] [vecL (encI .u8) 1 5 x0] (.tup []) [vecL (encI .u8) 1 5 r] := by
 refine kFn (fn := Tryz.f93) (fun F hFn hFH hFD => ?_)
 unfold slices_Reverse_s0 at h
 refine kSR ?_
 refine kC 5 [0,2,3] ?_
 refine kEN ?_
 refine K.block 0 (by kernel_rfl) ?_
 refine K.loop (by kernel_rfl) (fun (s1 : Int × Int × (List Int)) => ([(0, .vc 0), (2, .int .i64 s1.1), (3, .int .i64 s1.2.1)], [vecL (encI .u8) 1 5 s1.2.2])) h [0, 2, 3] (by kernel_rfl) (by kernel_rfl) (fun s1 x29 hs28 => ?_)
 refine kS ?_
 refine kSR ?_
 refine kC 3 [0,2,3,9] ?_
 refine kEN ?_
 refine J.caseB 9 (b := (decide (s1.1 < s1.2.1))) (by kernel_rfl) (fun hb30 => ?_) (fun hb30 => ?_)
 ·have h31 := condT hb30 hs28
  refine kT ?_
  refine kK ?_
  refine PJ.next ?_
  refine kS ?_
  refine K.block 1 (by kernel_rfl) ?_
  refine J.keep [0, 2, 3] (L2 := [(0, .vc 0), (2, .int .i64 s1.1), (3, .int .i64 s1.2.1)]) (by kernel_rfl) ?_
  refine K.draw (by kernel_rfl) (by kernel_rfl) (by kernel_rfl) (H2 := [vecL (encI .u8) 1 5 s1.2.2]) (by kernel_rfl) (n := 1) (by kernel_rfl) ?_
  refine kD 6 ?_
  obtain ⟨hm, h33⟩ := asrt h31
  refine RJ.rel (d := (some 20)) (ef := ⟨.ptr 0 ((s1.2.1 : Int).toNat * 1), [0], []⟩) (ef' := ⟨.ptr 0 ((s1.2.1 : Int).toNat * 1), [0], []⟩) (c := inR s1.2.1 s1.2.2.length) (tr2 := [([], []), ([], []), ([], []), ([], []), ([], []), ([], []), ([1], [])]) (H2 := [vecL (encI .u8) 1 5 s1.2.2]) (by kernel_rfl) hm (fun hc => rfl) (by kernel_rfl) ?_
  obtain ⟨hm, h34⟩ := asrt h33
  refine RJ.rel (d := (some 21)) (ef := ⟨(((s1.2.2).flatMap (encI .u8)).drop ((s1.2.1 : Int).toNat * 1)).headD .undef, [0], []⟩) (ef' := ⟨.int .u8 (nth s1.2.2 s1.2.1), [0], []⟩) (c := Nat.blt ((s1.2.1 : Int).toNat * 1) (s1.2.2.flatMap (encI .u8)).length) (tr2 := [([], []), ([], []), ([], []), ([], []), ([], []), ([], []), ([1], []), ([0, 1], [])]) (H2 := [vecL (encI .u8) 1 5 s1.2.2]) (by kernel_rfl) (loadv_ok (encI_len .u8) rfl hm) (fun hc => N.load1 (encI_len .u8) (fun _ => rfl) hm) (by kernel_rfl) ?_
  refine kD 2 ?_
  obtain ⟨hm, h35⟩ := asrt h34
  refine RJ.rel (d := (some 24)) (ef := ⟨.ptr 0 ((s1.1 : Int).toNat * 1), [0], []⟩) (ef' := ⟨.ptr 0 ((s1.1 : Int).toNat * 1), [0], []⟩) (c := inR s1.1 s1.2.2.length) (tr2 := [([], []), ([], []), ([], []), ([], []), ([], []), ([], []), ([1], []), ([0, 1], []), ([], []), ([], []), ([1], [])]) (H2 := [vecL (encI .u8) 1 5 s1.2.2]) (by kernel_rfl) hm (fun hc => rfl) (by kernel_rfl) ?_
  obtain ⟨hm, h36⟩ := asrt h35
  refine RJ.rel (d := (some 25)) (ef := ⟨(((s1.2.2).flatMap (encI .u8)).drop ((s1.1 : Int).toNat * 1)).headD .undef, [0], []⟩) (ef' := ⟨.int .u8 (nth s1.2.2 s1.1), [0], []⟩) (c := Nat.blt ((s1.1 : Int).toNat * 1) (s1.2.2.flatMap (encI .u8)).length) (tr2 := [([], []), ([], []), ([], []), ([], []), ([], []), ([], []), ([1], []), ([0, 1], []), ([], []), ([], []), ([1], []), ([0, 1], [])]) (H2 := [vecL (encI .u8) 1 5 s1.2.2]) (by kernel_rfl) (loadv_ok (encI_len .u8) rfl hm) (fun hc => N.load1 (encI_len .u8) (fun _ => rfl) hm) (by kernel_rfl) ?_
  obtain ⟨hm, h37⟩ := asrt h36
  refine RJ.rel (d := (some 26)) (ef := ⟨.ptr 0 ((s1.1 : Int).toNat * 1), [0], []⟩) (ef' := ⟨.ptr 0 ((s1.1 : Int).toNat * 1), [0], []⟩) (c := inR s1.1 s1.2.2.length) (tr2 := [([], []), ([], []), ([], []), ([], []), ([], []), ([], []), ([1], []), ([0, 1], []), ([], []), ([], []), ([1], []), ([0, 1], []), ([1], [])]) (H2 := [vecL (encI .u8) 1 5 s1.2.2]) (by kernel_rfl) hm (fun hc => rfl) (by kernel_rfl) ?_
  obtain ⟨hm, h38⟩ := asrt h37
  refine RJ.rel (d := none) (ef := ⟨.undef, [0], [(0, .vec (s1.2.2).length 1 5 (splice ((s1.2.2).flatMap (encI .u8)) ((s1.1 : Int).toNat * 1) ((encI .u8) (nth s1.2.2 s1.2.1))))]⟩) (ef' := ⟨.undef, [0], [(0, vecL (encI .u8) 1 5 (setAt s1.2.2 s1.1 (nth s1.2.2 s1.2.1)))]⟩) (c := Nat.ble (((s1.1 : Int).toNat * 1) + ((encI .u8) (nth s1.2.2 s1.2.1)).length) (s1.2.2.flatMap (encI .u8)).length) (tr2 := [([], []), ([], []), ([], []), ([], []), ([], []), ([], []), ([1], []), ([0, 1], []), ([], []), ([], []), ([1], []), ([0, 1], []), ([1], []), ([0, 1], [0])]) (H2 := [vecL (encI .u8) 1 5 (setAt s1.2.2 s1.1 (nth s1.2.2 s1.2.1))]) (by kernel_rfl) (storev_ok (encI_len .u8) hm) (fun hc => N.store (encI_len .u8) hm) (by kernel_rfl) ?_
  obtain ⟨hm, h39⟩ := asrt h38
  refine RJ.rel (d := (some 27)) (ef := ⟨.ptr 0 ((s1.2.1 : Int).toNat * 1), [0], []⟩) (ef' := ⟨.ptr 0 ((s1.2.1 : Int).toNat * 1), [0], []⟩) (c := inR s1.2.1 (setAt s1.2.2 s1.1 (nth s1.2.2 s1.2.1)).length) (tr2 := [([], []), ([], []), ([], []), ([], []), ([], []), ([], []), ([1], []), ([0, 1], []), ([], []), ([], []), ([1], []), ([0, 1], []), ([1], []), ([0, 1], [0]), ([1], [])]) (H2 := [vecL (encI .u8) 1 5 (setAt s1.2.2 s1.1 (nth s1.2.2 s1.2.1))]) (by kernel_rfl) hm (fun hc => rfl) (by kernel_rfl) ?_
  obtain ⟨hm, h40⟩ := asrt h39
  refine RJ.rel (d := none) (ef := ⟨.undef, [0], [(0, .vec ((setAt s1.2.2 s1.1 (nth s1.2.2 s1.2.1))).length 1 5 (splice (((setAt s1.2.2 s1.1 (nth s1.2.2 s1.2.1))).flatMap (encI .u8)) ((s1.2.1 : Int).toNat * 1) ((encI .u8) (nth s1.2.2 s1.1))))]⟩) (ef' := ⟨.undef, [0], [(0, vecL (encI .u8) 1 5 (setAt (setAt s1.2.2 s1.1 (nth s1.2.2 s1.2.1)) s1.2.1 (nth s1.2.2 s1.1)))]⟩) (c := Nat.ble (((s1.2.1 : Int).toNat * 1) + ((encI .u8) (nth s1.2.2 s1.1)).length) ((setAt s1.2.2 s1.1 (nth s1.2.2 s1.2.1)).flatMap (encI .u8)).length) (tr2 := [([], []), ([], []), ([], []), ([], []), ([], []), ([], []), ([1], []), ([0, 1], []), ([], []), ([], []), ([1], []), ([0, 1], []), ([1], []), ([0, 1], [0]), ([1], []), ([0, 1], [0])]) (H2 := [vecL (encI .u8) 1 5 ((setAt (setAt s1.2.2 s1.1 (nth s1.2.2 s1.2.1)) s1.2.1 (nth s1.2.2 s1.1)))]) (by kernel_rfl) (storev_ok (encI_len .u8) hm) (fun hc => N.store (encI_len .u8) hm) (by kernel_rfl) ?_
  refine kE ?_
  refine PJ.blockNormal ?_
  refine PJ.next ?_
  refine kR ?_
  refine RJ.seg 6 [0, 2, 3] (L2 := [(0, .vc 0), (2, .int .i64 (IntKind.wrap .i64 (s1.1 + 1))), (3, .int .i64 (IntKind.wrap .i64 (s1.2.1 - 1)))]) (H2 := [vecL (encI .u8) 1 5 ((setAt (setAt s1.2.2 s1.1 (nth s1.2.2 s1.2.1)) s1.2.1 (nth s1.2.2 s1.1)))]) (by kernel_rfl) ?_
  refine kE ?_
  obtain rfl := oi h40
  exact PJ.loopNext [0, 2, 3] (by kernel_rfl) (by kernel_rfl)
 ·have h32 := condF hb30 hs28
  refine kF ?_
  refine K.exit 0 (by kernel_rfl) ?_
  refine PJ.passExit ?_
  obtain rfl := oi h32
  refine PJ.loopOut (fun e => nomatch e) (fun he42 => ?_)
  have h41 := congrArg some he42
  refine PJ.blockOut ?_
  obtain rfl := oi h41
  exact K.retV (H0 := [vecL (encI .u8) 1 5 x0]) [0] (.inl rfl) hFn hFH hFD (by kernel_rfl) (v1 := .tup []) (by kernel_rfl) (by kernel_rfl) (by kernel_rfl) (by decide) (by kernel_rfl) (by kernel_rfl) (by kernel_rfl) (by kernel_rfl) (by kernel_rfl)
def oper_spell (x0 : Int) : Option (List Int) :=
 (Option.bind (loopN (fun (s27 : Int × (List Int)) => (bif (decide (s27.1 > 0)) then (bif room (s27.2.length + (([(IntKind.wrap .u8 (Int.tmod s27.1 10))] : List Int)).length) then (some (.inl ((IntKind.wrap .i64 (Int.tdiv s27.1 10)), (s27.2 ++ (([(IntKind.wrap .u8 (Int.tmod s27.1 10))] : List Int)))))) else none) else (some (.inr s27.2)))) big (x0, ([] : List Int))) fun (s22 : (List Int)) => (Option.bind (slices_Reverse_s0 s22) fun y48 => (some y48)))
theorem oper_spell_ok {x0 : Int} {r : List Int} (h : oper_spell x0 = some r) : SC Tryz.prog 83 [.int .i64 x0] [] (lsv (encI .u8) 1 r) [] := by
 refine kFn (fn := Tryz.f83) (fun F hFn hFH hFD => ?_)
 unfold oper_spell at h
 refine kSR ?_
 refine kC 1 [0,2] ?_
 refine kEN ?_
 refine kSR ?_
 refine kC 1 [0,2,3] ?_
 refine kEN ?_
 obtain ⟨s22, hy24, h26⟩ := bindS h
 refine K.cutN (by kernel_rfl) (fun (s22 : (List Int)) => ([(2, .nl), (3, .vc 0)], [vecL (encI .u8) 1 5 s22])) s22 ?_ ?_
 ·refine K.block 0 (by kernel_rfl) ?_
  refine J.wk (Wk.viv 3 1 5 (by kernel_rfl)) ?_
  refine K.loop (by kernel_rfl) (fun (s27 : Int × (List Int)) => ([(0, .int .i64 s27.1), (2, .nl), (3, .vc 0)], [vecL (encI .u8) 1 5 s27.2])) hy24 [0, 2, 3] (by kernel_rfl) (by kernel_rfl) (fun s27 x41 hs40 => ?_)
  refine kS ?_
  refine kSR ?_
  refine kC 2 [0,2,3,5] ?_
  refine kEN ?_
  refine J.caseB 5 (b := (decide (s27.1 > 0))) (by kernel_rfl) (fun hb42 => ?_) (fun hb42 => ?_)
  ·have h43 := condT hb42 hs40
   refine kT ?_
   refine kK ?_
   refine PJ.next ?_
   refine kS ?_
   refine K.block 1 (by kernel_rfl) ?_
   refine kR ?_
   refine kC 5 [0,2,3,8,12] ?_
   obtain ⟨hm, h45⟩ := asrt h43
   refine RJ.rel (d := (some 13)) (ef := ⟨.vc 2, [0, 1], [(0, .gone), (2, .vec (s27.2.length + (([(IntKind.wrap .u8 (Int.tmod s27.1 10))] : List Int)).length) 1 5 (s27.2.flatMap (encI .u8) ++ (([(IntKind.wrap .u8 (Int.tmod s27.1 10))] : List Int)).flatMap (encI .u8)))]⟩) (ef' := ⟨.vc 2, [0, 1], [(0, .gone), (2, vecL (encI .u8) 1 5 (s27.2 ++ (([(IntKind.wrap .u8 (Int.tmod s27.1 10))] : List Int))))]⟩) (c := roomB (s27.2.length + (([(IntKind.wrap .u8 (Int.tmod s27.1 10))] : List Int)).length)) (tr2 := []) (H2 := [.gone, vecL (encI .u8) 1 5 (([(IntKind.wrap .u8 (Int.tmod s27.1 10))] : List Int)), vecL (encI .u8) 1 5 ((s27.2 ++ (([(IntKind.wrap .u8 (Int.tmod s27.1 10))] : List Int))))]) (by kernel_rfl) (roomB_of_room hm) (fun hc => N.app) (by kernel_rfl) ?_
   refine kC 1 [0,2,3] ?_
   refine kE ?_
   refine PJ.blockNormal ?_
   refine PJ.next ?_
   refine kR ?_
   refine RJ.seg 3 [0, 2, 3] (L2 := [(0, .int .i64 (IntKind.wrap .i64 (Int.tdiv s27.1 10))), (2, .nl), (3, .vc 2)]) (H2 := [.gone, vecL (encI .u8) 1 5 (([(IntKind.wrap .u8 (Int.tmod s27.1 10))] : List Int)), vecL (encI .u8) 1 5 ((s27.2 ++ (([(IntKind.wrap .u8 (Int.tmod s27.1 10))] : List Int))))]) (by kernel_rfl) ?_
   refine kE ?_
   obtain rfl := oi h45
   refine PJ.wk (Wk.sel (L2 := [(0, .int .i64 (IntKind.wrap .i64 (Int.tdiv s27.1 10))), (2, .nl), (3, .vc 0)]) (H2 := [vecL (encI .u8) 1 5 ((s27.2 ++ (([(IntKind.wrap .u8 (Int.tmod s27.1 10))] : List Int))))]) 0 (by rw [hFH]; rfl) hFD [2] (by kernel_rfl) (by kernel_rfl) (by decide) (by kernel_rfl) (by kernel_rfl) (by kernel_rfl) (by kernel_rfl)) ?_
   exact PJ.loopNext [0, 2, 3] (by kernel_rfl) (by kernel_rfl)
  ·have h44 := condF hb42 hs40
   refine kF ?_
   refine K.exit 0 (by kernel_rfl) ?_
   refine PJ.passExit ?_
   obtain rfl := oi h44
   refine PJ.loopOut (fun e => nomatch e) (fun he47 => ?_)
   have h46 := congrArg some he47
   refine PJ.blockOut ?_
   obtain rfl := oi h46
   exact kN [2, 3]
 ·refine kSR ?_
  refine kC 1 [2,3,14] ?_
  obtain ⟨y48, hy49, h50⟩ := bindS h26
  refine RJ.callG (d := (some 15)) (f := 93) (args := [.vc 0]) (args0 := [.vc 0]) (v0 := .tup []) (v := .tup []) (tr2 := []) (H0 := [vecL (encI .u8) 1 5 s22]) (H0' := [vecL (encI .u8) 1 5 y48]) (H2 := [vecL (encI .u8) 1 5 y48]) [0] (by kernel_rfl) (by kernel_rfl) (by kernel_rfl) (by kernel_rfl) (by decide) (by kernel_rfl) (by kernel_rfl) (by kernel_rfl) (.cons (Le.refl _) .nil) (slices_Reverse_s0_ok hy49) (by kernel_rfl) (by kernel_rfl) (by kernel_rfl) ?_
  refine kEN ?_
  refine kSR ?_
  refine kC 2 [2] ?_
  refine kEN ?_
  refine kX ?_
  obtain rfl := oi h50
  refine PJ.wk (Wk.freeze 0 (n := y48.length) (k := 1) (e := 5) (cs := y48.flatMap (encI .u8)) (by kernel_rfl)) ?_
  exact kZ hFn hFH hFD
def oper_asked__long (x0 : St85) : Option ((List Int) × Bool) :=
 (Option.bind (oper_spell (x0.Oper_.F_.length : Int)) fun y1 => (some (y1, true)))
theorem oper_asked__long_ok {x0 : St85} {r : (List Int) × Bool} (h : oper_asked__long x0 = some r) : SC Tryz.prog 69 [.agg (encSt85 x0)] [] (.tup [lsv (encI .u8) 1 r.1, .bool r.2]) [] := by
 refine kFn (fn := Tryz.f69) (fun F hFn hFH hFD => ?_)
 unfold oper_asked__long at h
 refine kSR ?_
 refine kC 3 [1,2,3] ?_
 refine kEN ?_
 refine kSR ?_
 refine kC 4 [2,3,7] ?_
 obtain ⟨y1, hy2, h3⟩ := bindS h
 refine RJ.call0 (d := (some 8)) (f := 83) (args := [.int .i64 (x0.Oper_.F_.length : Int)]) (v := lsv (encI .u8) 1 y1) (tr2 := []) (by kernel_rfl) (by kernel_rfl) (.cons (Le.refl _) .nil) (oper_spell_ok hy2) (by kernel_rfl) ?_
 refine kC 2 [2,3] ?_
 refine kEN ?_
 refine kX ?_
 obtain rfl := oi h3
 exact kZ hFn hFH hFD
def oper_asked__short (x0 : St85) : Option ((List Int) × Bool) :=
 (Option.bind (oper_spell x0.Oper_.W_) fun y1 => (some (y1, true)))
theorem oper_asked__short_ok {x0 : St85} {r : (List Int) × Bool} (h : oper_asked__short x0 = some r) : SC Tryz.prog 70 [.agg (encSt85 x0)] [] (.tup [lsv (encI .u8) 1 r.1, .bool r.2]) [] := by
 refine kFn (fn := Tryz.f70) (fun F hFn hFH hFD => ?_)
 unfold oper_asked__short at h
 refine kSR ?_
 refine kC 3 [1,2,3] ?_
 refine kEN ?_
 refine kSR ?_
 refine kC 3 [2,3,6] ?_
 obtain ⟨y1, hy2, h3⟩ := bindS h
 refine RJ.call0 (d := (some 7)) (f := 83) (args := [.int .i64 x0.Oper_.W_]) (v := lsv (encI .u8) 1 y1) (tr2 := []) (by kernel_rfl) (by kernel_rfl) (.cons (Le.refl _) .nil) (oper_spell_ok hy2) (by kernel_rfl) ?_
 refine kC 2 [2,3] ?_
 refine kEN ?_
 refine kX ?_
 obtain rfl := oi h3
 exact kZ hFn hFH hFD
def oper_strip (x0 : List Int) : Option (List Int) :=
 (Option.bind (loopN (fun (s141 : (List Int)) => (Option.bind (Option.bind (bif (decide ((s141.length : Int) > 0)) then (bif inR 0 s141.length then (some ((decide ((nth s141 0) = 0)))) else none) else (some false)) fun (s260 : Bool) => (bif s260 then (some (.inl ())) else (some (.inr (.inr s141))))) (joinX fun (s251 : Unit) => (bif inS 1 (s141.length : Int) s141.length then (some (.inl (cut s141 1 (s141.length : Int)))) else none)))) big x0) fun (s136 : (List Int)) => (Option.bind (slices_Clone s136) fun y276 => (some y276)))
theorem oper_strip_ok {x0 : List Int} {r : List Int} (h : oper_strip x0 = some r) : SC Tryz.prog 74 [lsv (encI .u8) 1 x0] [] (lsv (encI .u8) 1 r) [] := by
 refine kFn (fn := Tryz.f74) (fun F hFn hFH hFD => ?_)
 unfold oper_strip at h
 refine kSR ?_
 refine kC 1 [0,2] ?_
 refine kEN ?_
 obtain ⟨s136, hy138, h140⟩ := bindS h
 refine K.cutN (by kernel_rfl) (fun (s136 : (List Int)) => ([(0, lsv (encI .u8) 1 s136), (2, .nl)], [])) s136 ?_ ?_
 ·refine K.block 0 (by kernel_rfl) ?_
  refine K.loop (by kernel_rfl) (fun (s141 : (List Int)) => ([(0, lsv (encI .u8) 1 s141), (2, .nl)], [])) hy138 [0, 2] (by kernel_rfl) (by kernel_rfl) (fun s141 x231 hs230 => ?_)
  obtain ⟨y252, hy253, h254⟩ := bindS hs230
  refine K.cutX (by kernel_rfl) (fun (s251 : Unit) => ([(0, lsv (encI .u8) 1 s141), (2, .nl)], [])) y252 ?_ (fun s251 hs => ?_)
  ·obtain ⟨s260, hy262, h264⟩ := bindS hy253
   refine K.cutN (by kernel_rfl) (fun (s260 : Bool) => ([(0, lsv (encI .u8) 1 s141), (2, .nl), (11, .bool s260)], [])) s260 ?_ ?_
   ·refine kR ?_
    refine kC 4 [0,2,6] ?_
    refine RJ.caseB 6 (b := (decide ((s141.length : Int) > 0))) (by kernel_rfl) (fun hb265 => ?_) (fun hb265 => ?_)
    ·have h266 := condT hb265 hy262
     refine kC 1 [0,2,6,7] ?_
     obtain ⟨hm, h268⟩ := asrt h266
     refine RJ.rel (d := (some 8)) (ef := ⟨.ep (((s141.flatMap (encI .u8)).drop ((0 : Int).toNat * 1)).take 1), [], []⟩) (ef' := ⟨.ep ((encI .u8) (nth s141 0)), [], []⟩) (c := inR 0 s141.length) (tr2 := []) (H2 := []) (by kernel_rfl) hm (fun hc => N.idx (encI_len .u8) hc) (by kernel_rfl) ?_
     refine kC 3 [0,2,11] ?_
     refine kE ?_
     obtain rfl := oi h268
     exact kN [0, 2, 11]
    ·have h267 := condF hb265 hy262
     refine kC 5 [0,2,11] ?_
     refine kE ?_
     obtain rfl := oi h267
     exact kN [0, 2, 11]
   ·refine J.caseB 11 (b := s260) (by kernel_rfl) (fun hb269 => ?_) (fun hb269 => ?_)
    ·have h270 := condT hb269 h264
     refine kT ?_
     refine kK ?_
     obtain rfl := oi h270
     exact PJ.cutXl [0, 2] (by kernel_rfl) (by kernel_rfl)
    ·have h271 := condF hb269 h264
     refine kF ?_
     refine K.exit 0 (by kernel_rfl) ?_
     obtain rfl := oi h271
     have h272 := joinX_inr h254
     refine PJ.cutXr (fun e => nomatch e) ?_
     obtain rfl := oi h272
     refine PJ.loopOut (fun e => nomatch e) (fun he274 => ?_)
     have h273 := congrArg some he274
     refine PJ.blockOut ?_
     obtain rfl := oi h273
     exact kN [0, 2]
  ·subst hs
   have h255 := joinX_inl h254
   refine K.block 1 (by kernel_rfl) ?_
   refine kR ?_
   refine kC 1 [0,2,12] ?_
   obtain ⟨hm, h275⟩ := asrt h255
   refine RJ.rel (d := (some 13)) (ef := ⟨.lst (((s141.length : Int) : Int).toNat - (1 : Int).toNat) 1 (((s141.flatMap (encI .u8)).take (((s141.length : Int) : Int).toNat * 1)).drop ((1 : Int).toNat * 1)), [], []⟩) (ef' := ⟨.lst (cut s141 1 (s141.length : Int)).length 1 ((cut s141 1 (s141.length : Int)).flatMap (encI .u8)), [], []⟩) (c := inS 1 (s141.length : Int) s141.length) (tr2 := []) (H2 := []) (by kernel_rfl) hm (fun hc => N.slice (encI_len .u8) hc) (by kernel_rfl) ?_
   refine kC 1 [0,2] ?_
   refine kE ?_
   refine PJ.blockNormal ?_
   obtain rfl := oi h275
   exact PJ.loopNext [0, 2] (by kernel_rfl) (by kernel_rfl)
 ·refine kSR ?_
  refine kC 1 [2,14] ?_
  obtain ⟨y276, hy277, h278⟩ := bindS h140
  refine RJ.call0 (d := (some 15)) (f := 82) (args := [lsv (encI .u8) 1 s136]) (v := lsv (encI .u8) 1 y276) (tr2 := []) (by kernel_rfl) (by kernel_rfl) (.cons (Le.refl _) .nil) (slices_Clone_ok hy277) (by kernel_rfl) ?_
  refine kC 1 [2] ?_
  refine kEN ?_
  refine kX ?_
  obtain rfl := oi h278
  exact kZ hFn hFH hFD
def oper_asked__part (x0 : St85) : Option ((List Int) × Bool) :=
 (Option.bind (oper_strip x0.Oper_.F_) fun y1 => (some (y1, true)))
theorem oper_asked__part_ok {x0 : St85} {r : (List Int) × Bool} (h : oper_asked__part x0 = some r) : SC Tryz.prog 71 [.agg (encSt85 x0)] [] (.tup [lsv (encI .u8) 1 r.1, .bool r.2]) [] := by
 refine kFn (fn := Tryz.f71) (fun F hFn hFH hFD => ?_)
 unfold oper_asked__part at h
 refine kSR ?_
 refine kC 3 [1,2,3] ?_
 refine kEN ?_
 refine kSR ?_
 refine kC 3 [2,3,6] ?_
 obtain ⟨y1, hy2, h3⟩ := bindS h
 refine RJ.call0 (d := (some 7)) (f := 74) (args := [lsv (encI .u8) 1 x0.Oper_.F_]) (v := lsv (encI .u8) 1 y1) (tr2 := []) (by kernel_rfl) (by kernel_rfl) (.cons (Le.refl _) .nil) (oper_strip_ok hy2) (by kernel_rfl) ?_
 refine kC 2 [2,3] ?_
 refine kEN ?_
 refine kX ?_
 obtain rfl := oi h3
 exact kZ hFn hFH hFD
def oper_asked__cut (x0 : St85) : Option ((List Int) × Bool) :=
 (bif inS 0 x0.Oper_.W_ x0.Oper_.F_.length then (Option.bind (oper_strip (cut x0.Oper_.F_ 0 x0.Oper_.W_)) fun y2 => (some (y2, true))) else none)
theorem oper_asked__cut_ok {x0 : St85} {r : (List Int) × Bool} (h : oper_asked__cut x0 = some r) : SC Tryz.prog 72 [.agg (encSt85 x0)] [] (.tup [lsv (encI .u8) 1 r.1, .bool r.2]) [] := by
 refine kFn (fn := Tryz.f72) (fun F hFn hFH hFD => ?_)
 unfold oper_asked__cut at h
 refine kSR ?_
 refine kC 3 [1,2,3] ?_
 refine kEN ?_
 refine kSR ?_
 refine kC 6 [2,3,6,9] ?_
 obtain ⟨hm, h1⟩ := asrt h
 refine RJ.rel (d := (some 10)) (ef := ⟨.lst ((x0.Oper_.W_ : Int).toNat - (0 : Int).toNat) 1 (((x0.Oper_.F_.flatMap (encI .u8)).take ((x0.Oper_.W_ : Int).toNat * 1)).drop ((0 : Int).toNat * 1)), [], []⟩) (ef' := ⟨.lst (cut x0.Oper_.F_ 0 x0.Oper_.W_).length 1 ((cut x0.Oper_.F_ 0 x0.Oper_.W_).flatMap (encI .u8)), [], []⟩) (c := inS 0 x0.Oper_.W_ x0.Oper_.F_.length) (tr2 := []) (H2 := [.box (encSt85 x0)]) (by kernel_rfl) hm (fun hc => N.slice (encI_len .u8) hc) (by kernel_rfl) ?_
 obtain ⟨y2, hy3, h4⟩ := bindS h1
 refine RJ.call0 (d := (some 11)) (f := 74) (args := [lsv (encI .u8) 1 (cut x0.Oper_.F_ 0 x0.Oper_.W_)]) (v := lsv (encI .u8) 1 y2) (tr2 := []) (by kernel_rfl) (by kernel_rfl) (.cons (Le.refl _) .nil) (oper_strip_ok hy3) (by kernel_rfl) ?_
 refine kC 2 [2,3] ?_
 refine kEN ?_
 refine kX ?_
 obtain rfl := oi h4
 exact kZ hFn hFH hFD
def oper_asked__power (x0 : St85) : Option ((List Int) × Bool) :=
 (Option.bind (oper_spell x0.Oper_.C_) fun y1 => (some (y1, true)))
theorem oper_asked__power_ok {x0 : St85} {r : (List Int) × Bool} (h : oper_asked__power x0 = some r) : SC Tryz.prog 73 [.agg (encSt85 x0)] [] (.tup [lsv (encI .u8) 1 r.1, .bool r.2]) [] := by
 refine kFn (fn := Tryz.f73) (fun F hFn hFH hFD => ?_)
 unfold oper_asked__power at h
 refine kSR ?_
 refine kC 3 [1,2,3] ?_
 refine kEN ?_
 refine kSR ?_
 refine kC 3 [2,3,6] ?_
 obtain ⟨y1, hy2, h3⟩ := bindS h
 refine RJ.call0 (d := (some 7)) (f := 83) (args := [.int .i64 x0.Oper_.C_]) (v := lsv (encI .u8) 1 y1) (tr2 := []) (by kernel_rfl) (by kernel_rfl) (.cons (Le.refl _) .nil) (oper_spell_ok hy2) (by kernel_rfl) ?_
 refine kC 2 [2,3] ?_
 refine kEN ?_
 refine kX ?_
 obtain rfl := oi h3
 exact kZ hFn hFH hFD
def oper_Operand (x0 : St25) (x1 : Int) : Option ((List Int) × Bool) :=
 (Option.bind (oper_Right x0) fun y1 => (bif (!y1) then (some (([] : List Int), false)) else (Option.bind (oper_asked__operands_s0 (⟨x0⟩ : St85)) fun y7 => (bif (decide (x1 = 110)) then (Option.bind (oper_asked__number (⟨x0⟩ : St85)) fun y14 => (some (y14.1, y14.2))) else (bif (decide (x1 = 105)) then (Option.bind (oper_asked__whole (⟨x0⟩ : St85)) fun y21 => (some (y21.1, y21.2))) else (bif (decide (x1 = 118)) then (Option.bind (oper_asked__long (⟨x0⟩ : St85)) fun y28 => (some (y28.1, y28.2))) else (bif (decide (x1 = 119)) then (Option.bind (oper_asked__short (⟨x0⟩ : St85)) fun y35 => (some (y35.1, y35.2))) else (bif (decide (x1 = 102)) then (Option.bind (oper_asked__part (⟨x0⟩ : St85)) fun y42 => (some (y42.1, y42.2))) else (bif (decide (x1 = 116)) then (Option.bind (oper_asked__cut (⟨x0⟩ : St85)) fun y49 => (some (y49.1, y49.2))) else (bif (decide (x1 = 99)) then (Option.bind (oper_asked__power (⟨x0⟩ : St85)) fun y56 => (some (y56.1, y56.2))) else (bif (decide (x1 = 101)) then (Option.bind (oper_asked__power (⟨x0⟩ : St85)) fun y63 => (some (y63.1, y63.2))) else (some (([] : List Int), false)))))))))))))
theorem oper_Operand_ok {x0 : St25} {x1 : Int} {r : (List Int) × Bool} (h : oper_Operand x0 x1 = some r) : SC Tryz.prog 35 [.agg (encSt25 x0), .int .u8 x1] [] (.tup [lsv (encI .u8) 1 r.1, .bool r.2]) [] := by
 refine kFn (fn := Tryz.f35) (fun F hFn hFH hFD => ?_)
 unfold oper_Operand at h
 refine kSR ?_
 refine kC 3 [1,2,4,5] ?_
 refine kEN ?_
 refine kS ?_
 refine kSR ?_
 refine kC 1 [1,2,4,5,8] ?_
 obtain ⟨y1, hy2, h3⟩ := bindS h
 refine RJ.call0 (d := (some 9)) (f := 49) (args := [.agg (encSt25 x0)]) (v := .bool y1) (tr2 := []) (by kernel_rfl) (by kernel_rfl) (.cons (Le.refl _) .nil) (oper_Right_ok hy2) (by kernel_rfl) ?_
 refine kC 1 [1,2,4,5,10] ?_
 refine kEN ?_
 refine J.caseB 10 (b := (!y1)) (by kernel_rfl) (fun hb4 => ?_) (fun hb4 => ?_)
 ·have h5 := condT hb4 h3
  refine kT ?_
  refine kSR ?_
  refine RJ.seg 2 [1, 2, 4, 5] (L2 := [(1, .int .u8 x1), (2, .ptr 0 0), (4, .nl), (5, .bool false)]) (H2 := [.box (encSt25 x0)]) (by kernel_rfl) ?_
  refine kEN ?_
  refine kX ?_
  refine PJ.passRet ?_
  obtain rfl := oi h5
  refine PJ.res (v1 := .tup [.nl, .bool false]) (Le.tup (.cons (Le.nl _) (.cons (Le.refl _) .nil))) ?_
  exact kZ hFn hFH hFD
 ·have h6 := condF hb4 h3
  refine kF ?_
  refine kK ?_
  refine PJ.next ?_
  refine kSR ?_
  refine RJ.seg 2 [1, 4, 5, 13] (L2 := [(1, .int .u8 x1), (4, .nl), (5, .bool false), (13, .agg (encSt25 x0))]) (H2 := [.box (encSt25 x0)]) (by kernel_rfl) ?_
  obtain ⟨y7, hy8, h9⟩ := bindS h6
  refine RJ.callG (d := (some 14)) (f := 50) (args := [.agg (encSt25 x0)]) (args0 := [.agg (encSt25 x0)]) (v0 := .mp 0) (v := .mp 1) (tr2 := []) (H0 := []) (H0' := [.map [(.int .u8 110, .fn (.func 67) [.agg [lsv (encI .u8) 1 ((⟨x0⟩ : St85).Oper_.I_), lsv (encI .u8) 1 ((⟨x0⟩ : St85).Oper_.F_), .int .i64 ((⟨x0⟩ : St85).Oper_.W_), .int .i64 ((⟨x0⟩ : St85).Oper_.C_)]] []), (.int .u8 105, .fn (.func 68) [.agg [lsv (encI .u8) 1 ((⟨x0⟩ : St85).Oper_.I_), lsv (encI .u8) 1 ((⟨x0⟩ : St85).Oper_.F_), .int .i64 ((⟨x0⟩ : St85).Oper_.W_), .int .i64 ((⟨x0⟩ : St85).Oper_.C_)]] []), (.int .u8 118, .fn (.func 69) [.agg [lsv (encI .u8) 1 ((⟨x0⟩ : St85).Oper_.I_), lsv (encI .u8) 1 ((⟨x0⟩ : St85).Oper_.F_), .int .i64 ((⟨x0⟩ : St85).Oper_.W_), .int .i64 ((⟨x0⟩ : St85).Oper_.C_)]] []), (.int .u8 119, .fn (.func 70) [.agg [lsv (encI .u8) 1 ((⟨x0⟩ : St85).Oper_.I_), lsv (encI .u8) 1 ((⟨x0⟩ : St85).Oper_.F_), .int .i64 ((⟨x0⟩ : St85).Oper_.W_), .int .i64 ((⟨x0⟩ : St85).Oper_.C_)]] []), (.int .u8 102, .fn (.func 71) [.agg [lsv (encI .u8) 1 ((⟨x0⟩ : St85).Oper_.I_), lsv (encI .u8) 1 ((⟨x0⟩ : St85).Oper_.F_), .int .i64 ((⟨x0⟩ : St85).Oper_.W_), .int .i64 ((⟨x0⟩ : St85).Oper_.C_)]] []), (.int .u8 116, .fn (.func 72) [.agg [lsv (encI .u8) 1 ((⟨x0⟩ : St85).Oper_.I_), lsv (encI .u8) 1 ((⟨x0⟩ : St85).Oper_.F_), .int .i64 ((⟨x0⟩ : St85).Oper_.W_), .int .i64 ((⟨x0⟩ : St85).Oper_.C_)]] []), (.int .u8 99, .fn (.func 73) [.agg [lsv (encI .u8) 1 ((⟨x0⟩ : St85).Oper_.I_), lsv (encI .u8) 1 ((⟨x0⟩ : St85).Oper_.F_), .int .i64 ((⟨x0⟩ : St85).Oper_.W_), .int .i64 ((⟨x0⟩ : St85).Oper_.C_)]] []), (.int .u8 101, .fn (.func 73) [.agg [lsv (encI .u8) 1 ((⟨x0⟩ : St85).Oper_.I_), lsv (encI .u8) 1 ((⟨x0⟩ : St85).Oper_.F_), .int .i64 ((⟨x0⟩ : St85).Oper_.W_), .int .i64 ((⟨x0⟩ : St85).Oper_.C_)]] [])]]) (H2 := [.box (encSt25 x0), .map [(.int .u8 110, .fn (.func 67) [.agg [lsv (encI .u8) 1 ((⟨x0⟩ : St85).Oper_.I_), lsv (encI .u8) 1 ((⟨x0⟩ : St85).Oper_.F_), .int .i64 ((⟨x0⟩ : St85).Oper_.W_), .int .i64 ((⟨x0⟩ : St85).Oper_.C_)]] []), (.int .u8 105, .fn (.func 68) [.agg [lsv (encI .u8) 1 ((⟨x0⟩ : St85).Oper_.I_), lsv (encI .u8) 1 ((⟨x0⟩ : St85).Oper_.F_), .int .i64 ((⟨x0⟩ : St85).Oper_.W_), .int .i64 ((⟨x0⟩ : St85).Oper_.C_)]] []), (.int .u8 118, .fn (.func 69) [.agg [lsv (encI .u8) 1 ((⟨x0⟩ : St85).Oper_.I_), lsv (encI .u8) 1 ((⟨x0⟩ : St85).Oper_.F_), .int .i64 ((⟨x0⟩ : St85).Oper_.W_), .int .i64 ((⟨x0⟩ : St85).Oper_.C_)]] []), (.int .u8 119, .fn (.func 70) [.agg [lsv (encI .u8) 1 ((⟨x0⟩ : St85).Oper_.I_), lsv (encI .u8) 1 ((⟨x0⟩ : St85).Oper_.F_), .int .i64 ((⟨x0⟩ : St85).Oper_.W_), .int .i64 ((⟨x0⟩ : St85).Oper_.C_)]] []), (.int .u8 102, .fn (.func 71) [.agg [lsv (encI .u8) 1 ((⟨x0⟩ : St85).Oper_.I_), lsv (encI .u8) 1 ((⟨x0⟩ : St85).Oper_.F_), .int .i64 ((⟨x0⟩ : St85).Oper_.W_), .int .i64 ((⟨x0⟩ : St85).Oper_.C_)]] []), (.int .u8 116, .fn (.func 72) [.agg [lsv (encI .u8) 1 ((⟨x0⟩ : St85).Oper_.I_), lsv (encI .u8) 1 ((⟨x0⟩ : St85).Oper_.F_), .int .i64 ((⟨x0⟩ : St85).Oper_.W_), .int .i64 ((⟨x0⟩ : St85).Oper_.C_)]] []), (.int .u8 99, .fn (.func 73) [.agg [lsv (encI .u8) 1 ((⟨x0⟩ : St85).Oper_.I_), lsv (encI .u8) 1 ((⟨x0⟩ : St85).Oper_.F_), .int .i64 ((⟨x0⟩ : St85).Oper_.W_), .int .i64 ((⟨x0⟩ : St85).Oper_.C_)]] []), (.int .u8 101, .fn (.func 73) [.agg [lsv (encI .u8) 1 ((⟨x0⟩ : St85).Oper_.I_), lsv (encI .u8) 1 ((⟨x0⟩ : St85).Oper_.F_), .int .i64 ((⟨x0⟩ : St85).Oper_.W_), .int .i64 ((⟨x0⟩ : St85).Oper_.C_)]] [])]]) [] (by kernel_rfl) (by kernel_rfl) (by kernel_rfl) (by kernel_rfl) (by decide) (by kernel_rfl) (by kernel_rfl) (by kernel_rfl) (.cons (Le.refl _) .nil) (oper_asked__operands_s0_ok hy8) (by kernel_rfl) (by kernel_rfl) (by kernel_rfl) ?_
  refine kC 1 [4,5,14,15] ?_
  cases hb10 : (decide (x1 = 110))
  ·have h12 := condF hb10 h9
   have hn13 := of_decide_eq_false hb10
   cases hb17 : (decide (x1 = 105))
   ·have h19 := condF hb17 h12
    have hn20 := of_decide_eq_false hb17
    cases hb24 : (decide (x1 = 118))
    ·have h26 := condF hb24 h19
     have hn27 := of_decide_eq_false hb24
     cases hb31 : (decide (x1 = 119))
     ·have h33 := condF hb31 h26
      have hn34 := of_decide_eq_false hb31
      cases hb38 : (decide (x1 = 102))
      ·have h40 := condF hb38 h33
       have hn41 := of_decide_eq_false hb38
       cases hb45 : (decide (x1 = 116))
       ·have h47 := condF hb45 h40
        have hn48 := of_decide_eq_false hb45
        cases hb52 : (decide (x1 = 99))
        ·have h54 := condF hb52 h47
         have hn55 := of_decide_eq_false hb52
         cases hb59 : (decide (x1 = 101))
         ·have h61 := condF hb59 h54
          have hn62 := of_decide_eq_false hb59
          refine RJ.look (none) (d := some 16) (ef := ⟨.tup [.undef, .bool false], [1], []⟩) (c := missC (.int .u8 x1) [(.int .u8 110, .fn (.func 67) [.agg [lsv (encI .u8) 1 ((⟨x0⟩ : St85).Oper_.I_), lsv (encI .u8) 1 ((⟨x0⟩ : St85).Oper_.F_), .int .i64 ((⟨x0⟩ : St85).Oper_.W_), .int .i64 ((⟨x0⟩ : St85).Oper_.C_)]] []), (.int .u8 105, .fn (.func 68) [.agg [lsv (encI .u8) 1 ((⟨x0⟩ : St85).Oper_.I_), lsv (encI .u8) 1 ((⟨x0⟩ : St85).Oper_.F_), .int .i64 ((⟨x0⟩ : St85).Oper_.W_), .int .i64 ((⟨x0⟩ : St85).Oper_.C_)]] []), (.int .u8 118, .fn (.func 69) [.agg [lsv (encI .u8) 1 ((⟨x0⟩ : St85).Oper_.I_), lsv (encI .u8) 1 ((⟨x0⟩ : St85).Oper_.F_), .int .i64 ((⟨x0⟩ : St85).Oper_.W_), .int .i64 ((⟨x0⟩ : St85).Oper_.C_)]] []), (.int .u8 119, .fn (.func 70) [.agg [lsv (encI .u8) 1 ((⟨x0⟩ : St85).Oper_.I_), lsv (encI .u8) 1 ((⟨x0⟩ : St85).Oper_.F_), .int .i64 ((⟨x0⟩ : St85).Oper_.W_), .int .i64 ((⟨x0⟩ : St85).Oper_.C_)]] []), (.int .u8 102, .fn (.func 71) [.agg [lsv (encI .u8) 1 ((⟨x0⟩ : St85).Oper_.I_), lsv (encI .u8) 1 ((⟨x0⟩ : St85).Oper_.F_), .int .i64 ((⟨x0⟩ : St85).Oper_.W_), .int .i64 ((⟨x0⟩ : St85).Oper_.C_)]] []), (.int .u8 116, .fn (.func 72) [.agg [lsv (encI .u8) 1 ((⟨x0⟩ : St85).Oper_.I_), lsv (encI .u8) 1 ((⟨x0⟩ : St85).Oper_.F_), .int .i64 ((⟨x0⟩ : St85).Oper_.W_), .int .i64 ((⟨x0⟩ : St85).Oper_.C_)]] []), (.int .u8 99, .fn (.func 73) [.agg [lsv (encI .u8) 1 ((⟨x0⟩ : St85).Oper_.I_), lsv (encI .u8) 1 ((⟨x0⟩ : St85).Oper_.F_), .int .i64 ((⟨x0⟩ : St85).Oper_.W_), .int .i64 ((⟨x0⟩ : St85).Oper_.C_)]] []), (.int .u8 101, .fn (.func 73) [.agg [lsv (encI .u8) 1 ((⟨x0⟩ : St85).Oper_.I_), lsv (encI .u8) 1 ((⟨x0⟩ : St85).Oper_.F_), .int .i64 ((⟨x0⟩ : St85).Oper_.W_), .int .i64 ((⟨x0⟩ : St85).Oper_.C_)]] [])]) (tr2 := []) (by kernel_rfl) (by simp [hitC, missC, sameB, sameE, hn13, hn20, hn27, hn34, hn41, hn48, hn55, hn62]) ?_
          refine kC 5 [4,5,7] ?_
          refine kEN ?_
          refine kS ?_
          refine kSR ?_
          refine kC 2 [4,5,20] ?_
          refine kEN ?_
          refine kT ?_
          refine kSR ?_
          refine RJ.seg 2 [4, 5] (L2 := [(4, .nl), (5, .bool false)]) (H2 := [.box (encSt25 x0), .map [(.int .u8 110, .fn (.func 67) [.agg [lsv (encI .u8) 1 ((⟨x0⟩ : St85).Oper_.I_), lsv (encI .u8) 1 ((⟨x0⟩ : St85).Oper_.F_), .int .i64 ((⟨x0⟩ : St85).Oper_.W_), .int .i64 ((⟨x0⟩ : St85).Oper_.C_)]] []), (.int .u8 105, .fn (.func 68) [.agg [lsv (encI .u8) 1 ((⟨x0⟩ : St85).Oper_.I_), lsv (encI .u8) 1 ((⟨x0⟩ : St85).Oper_.F_), .int .i64 ((⟨x0⟩ : St85).Oper_.W_), .int .i64 ((⟨x0⟩ : St85).Oper_.C_)]] []), (.int .u8 118, .fn (.func 69) [.agg [lsv (encI .u8) 1 ((⟨x0⟩ : St85).Oper_.I_), lsv (encI .u8) 1 ((⟨x0⟩ : St85).Oper_.F_), .int .i64 ((⟨x0⟩ : St85).Oper_.W_), .int .i64 ((⟨x0⟩ : St85).Oper_.C_)]] []), (.int .u8 119, .fn (.func 70) [.agg [lsv (encI .u8) 1 ((⟨x0⟩ : St85).Oper_.I_), lsv (encI .u8) 1 ((⟨x0⟩ : St85).Oper_.F_), .int .i64 ((⟨x0⟩ : St85).Oper_.W_), .int .i64 ((⟨x0⟩ : St85).Oper_.C_)]] []), (.int .u8 102, .fn (.func 71) [.agg [lsv (encI .u8) 1 ((⟨x0⟩ : St85).Oper_.I_), lsv (encI .u8) 1 ((⟨x0⟩ : St85).Oper_.F_), .int .i64 ((⟨x0⟩ : St85).Oper_.W_), .int .i64 ((⟨x0⟩ : St85).Oper_.C_)]] []), (.int .u8 116, .fn (.func 72) [.agg [lsv (encI .u8) 1 ((⟨x0⟩ : St85).Oper_.I_), lsv (encI .u8) 1 ((⟨x0⟩ : St85).Oper_.F_), .int .i64 ((⟨x0⟩ : St85).Oper_.W_), .int .i64 ((⟨x0⟩ : St85).Oper_.C_)]] []), (.int .u8 99, .fn (.func 73) [.agg [lsv (encI .u8) 1 ((⟨x0⟩ : St85).Oper_.I_), lsv (encI .u8) 1 ((⟨x0⟩ : St85).Oper_.F_), .int .i64 ((⟨x0⟩ : St85).Oper_.W_), .int .i64 ((⟨x0⟩ : St85).Oper_.C_)]] []), (.int .u8 101, .fn (.func 73) [.agg [lsv (encI .u8) 1 ((⟨x0⟩ : St85).Oper_.I_), lsv (encI .u8) 1 ((⟨x0⟩ : St85).Oper_.F_), .int .i64 ((⟨x0⟩ : St85).Oper_.W_), .int .i64 ((⟨x0⟩ : St85).Oper_.C_)]] [])]]) (by kernel_rfl) ?_
          refine kEN ?_
          refine kX ?_
          refine PJ.passRet ?_
          obtain rfl := oi h61
          refine PJ.res (v1 := .tup [.nl, .bool false]) (Le.tup (.cons (Le.nl _) (.cons (Le.refl _) .nil))) ?_
          exact kZ hFn hFH hFD
         ·have h60 := condT hb59 h54
          have hn62 := of_decide_eq_true hb59
          refine RJ.look (some 7) (d := some 16) (ef := ⟨.tup [.fn (.func 73) [.agg [lsv (encI .u8) 1 ((⟨x0⟩ : St85).Oper_.I_), lsv (encI .u8) 1 ((⟨x0⟩ : St85).Oper_.F_), .int .i64 ((⟨x0⟩ : St85).Oper_.W_), .int .i64 ((⟨x0⟩ : St85).Oper_.C_)]] [], .bool true], [1], []⟩) (c := hitC (.int .u8 x1) [(.int .u8 110, .fn (.func 67) [.agg [lsv (encI .u8) 1 ((⟨x0⟩ : St85).Oper_.I_), lsv (encI .u8) 1 ((⟨x0⟩ : St85).Oper_.F_), .int .i64 ((⟨x0⟩ : St85).Oper_.W_), .int .i64 ((⟨x0⟩ : St85).Oper_.C_)]] []), (.int .u8 105, .fn (.func 68) [.agg [lsv (encI .u8) 1 ((⟨x0⟩ : St85).Oper_.I_), lsv (encI .u8) 1 ((⟨x0⟩ : St85).Oper_.F_), .int .i64 ((⟨x0⟩ : St85).Oper_.W_), .int .i64 ((⟨x0⟩ : St85).Oper_.C_)]] []), (.int .u8 118, .fn (.func 69) [.agg [lsv (encI .u8) 1 ((⟨x0⟩ : St85).Oper_.I_), lsv (encI .u8) 1 ((⟨x0⟩ : St85).Oper_.F_), .int .i64 ((⟨x0⟩ : St85).Oper_.W_), .int .i64 ((⟨x0⟩ : St85).Oper_.C_)]] []), (.int .u8 119, .fn (.func 70) [.agg [lsv (encI .u8) 1 ((⟨x0⟩ : St85).Oper_.I_), lsv (encI .u8) 1 ((⟨x0⟩ : St85).Oper_.F_), .int .i64 ((⟨x0⟩ : St85).Oper_.W_), .int .i64 ((⟨x0⟩ : St85).Oper_.C_)]] []), (.int .u8 102, .fn (.func 71) [.agg [lsv (encI .u8) 1 ((⟨x0⟩ : St85).Oper_.I_), lsv (encI .u8) 1 ((⟨x0⟩ : St85).Oper_.F_), .int .i64 ((⟨x0⟩ : St85).Oper_.W_), .int .i64 ((⟨x0⟩ : St85).Oper_.C_)]] []), (.int .u8 116, .fn (.func 72) [.agg [lsv (encI .u8) 1 ((⟨x0⟩ : St85).Oper_.I_), lsv (encI .u8) 1 ((⟨x0⟩ : St85).Oper_.F_), .int .i64 ((⟨x0⟩ : St85).Oper_.W_), .int .i64 ((⟨x0⟩ : St85).Oper_.C_)]] []), (.int .u8 99, .fn (.func 73) [.agg [lsv (encI .u8) 1 ((⟨x0⟩ : St85).Oper_.I_), lsv (encI .u8) 1 ((⟨x0⟩ : St85).Oper_.F_), .int .i64 ((⟨x0⟩ : St85).Oper_.W_), .int .i64 ((⟨x0⟩ : St85).Oper_.C_)]] []), (.int .u8 101, .fn (.func 73) [.agg [lsv (encI .u8) 1 ((⟨x0⟩ : St85).Oper_.I_), lsv (encI .u8) 1 ((⟨x0⟩ : St85).Oper_.F_), .int .i64 ((⟨x0⟩ : St85).Oper_.W_), .int .i64 ((⟨x0⟩ : St85).Oper_.C_)]] [])] 7) (tr2 := []) (by kernel_rfl) (by simp [hitC, missC, sameB, sameE, hn13, hn20, hn27, hn34, hn41, hn48, hn55, hn62]) ?_
          refine kC 5 [4,5,6,7] ?_
          refine kEN ?_
          refine kS ?_
          refine kSR ?_
          refine kC 2 [4,5,6,20] ?_
          refine kEN ?_
          refine kF ?_
          refine kK ?_
          refine PJ.next ?_
          refine kSR ?_
          refine RJ.seg 1 [4, 5, 21] (L2 := [(4, .nl), (5, .bool false), (21, .fn (.func 73) [.agg [lsv (encI .u8) 1 ((⟨x0⟩ : St85).Oper_.I_), lsv (encI .u8) 1 ((⟨x0⟩ : St85).Oper_.F_), .int .i64 ((⟨x0⟩ : St85).Oper_.W_), .int .i64 ((⟨x0⟩ : St85).Oper_.C_)]] [])]) (H2 := [.box (encSt25 x0), .map [(.int .u8 110, .fn (.func 67) [.agg [lsv (encI .u8) 1 ((⟨x0⟩ : St85).Oper_.I_), lsv (encI .u8) 1 ((⟨x0⟩ : St85).Oper_.F_), .int .i64 ((⟨x0⟩ : St85).Oper_.W_), .int .i64 ((⟨x0⟩ : St85).Oper_.C_)]] []), (.int .u8 105, .fn (.func 68) [.agg [lsv (encI .u8) 1 ((⟨x0⟩ : St85).Oper_.I_), lsv (encI .u8) 1 ((⟨x0⟩ : St85).Oper_.F_), .int .i64 ((⟨x0⟩ : St85).Oper_.W_), .int .i64 ((⟨x0⟩ : St85).Oper_.C_)]] []), (.int .u8 118, .fn (.func 69) [.agg [lsv (encI .u8) 1 ((⟨x0⟩ : St85).Oper_.I_), lsv (encI .u8) 1 ((⟨x0⟩ : St85).Oper_.F_), .int .i64 ((⟨x0⟩ : St85).Oper_.W_), .int .i64 ((⟨x0⟩ : St85).Oper_.C_)]] []), (.int .u8 119, .fn (.func 70) [.agg [lsv (encI .u8) 1 ((⟨x0⟩ : St85).Oper_.I_), lsv (encI .u8) 1 ((⟨x0⟩ : St85).Oper_.F_), .int .i64 ((⟨x0⟩ : St85).Oper_.W_), .int .i64 ((⟨x0⟩ : St85).Oper_.C_)]] []), (.int .u8 102, .fn (.func 71) [.agg [lsv (encI .u8) 1 ((⟨x0⟩ : St85).Oper_.I_), lsv (encI .u8) 1 ((⟨x0⟩ : St85).Oper_.F_), .int .i64 ((⟨x0⟩ : St85).Oper_.W_), .int .i64 ((⟨x0⟩ : St85).Oper_.C_)]] []), (.int .u8 116, .fn (.func 72) [.agg [lsv (encI .u8) 1 ((⟨x0⟩ : St85).Oper_.I_), lsv (encI .u8) 1 ((⟨x0⟩ : St85).Oper_.F_), .int .i64 ((⟨x0⟩ : St85).Oper_.W_), .int .i64 ((⟨x0⟩ : St85).Oper_.C_)]] []), (.int .u8 99, .fn (.func 73) [.agg [lsv (encI .u8) 1 ((⟨x0⟩ : St85).Oper_.I_), lsv (encI .u8) 1 ((⟨x0⟩ : St85).Oper_.F_), .int .i64 ((⟨x0⟩ : St85).Oper_.W_), .int .i64 ((⟨x0⟩ : St85).Oper_.C_)]] []), (.int .u8 101, .fn (.func 73) [.agg [lsv (encI .u8) 1 ((⟨x0⟩ : St85).Oper_.I_), lsv (encI .u8) 1 ((⟨x0⟩ : St85).Oper_.F_), .int .i64 ((⟨x0⟩ : St85).Oper_.W_), .int .i64 ((⟨x0⟩ : St85).Oper_.C_)]] [])]]) (by kernel_rfl) ?_
          obtain ⟨y63, hy64, h65⟩ := bindS h60
          refine RJ.call0 (d := (some 22)) (f := 73) (args := [.agg [lsv (encI .u8) 1 ((⟨x0⟩ : St85).Oper_.I_), lsv (encI .u8) 1 ((⟨x0⟩ : St85).Oper_.F_), .int .i64 ((⟨x0⟩ : St85).Oper_.W_), .int .i64 ((⟨x0⟩ : St85).Oper_.C_)]]) (v := .tup [lsv (encI .u8) 1 y63.1, .bool y63.2]) (tr2 := []) (by kernel_rfl) (by kernel_rfl) (.cons (Le.refl _) .nil) (oper_asked__power_ok hy64) (by kernel_rfl) ?_
          refine kC 4 [4,5] ?_
          refine kEN ?_
          refine kX ?_
          obtain rfl := oi h65
          exact kZ hFn hFH hFD
        ·have h53 := condT hb52 h47
         have hn55 := of_decide_eq_true hb52
         refine RJ.look (some 6) (d := some 16) (ef := ⟨.tup [.fn (.func 73) [.agg [lsv (encI .u8) 1 ((⟨x0⟩ : St85).Oper_.I_), lsv (encI .u8) 1 ((⟨x0⟩ : St85).Oper_.F_), .int .i64 ((⟨x0⟩ : St85).Oper_.W_), .int .i64 ((⟨x0⟩ : St85).Oper_.C_)]] [], .bool true], [1], []⟩) (c := hitC (.int .u8 x1) [(.int .u8 110, .fn (.func 67) [.agg [lsv (encI .u8) 1 ((⟨x0⟩ : St85).Oper_.I_), lsv (encI .u8) 1 ((⟨x0⟩ : St85).Oper_.F_), .int .i64 ((⟨x0⟩ : St85).Oper_.W_), .int .i64 ((⟨x0⟩ : St85).Oper_.C_)]] []), (.int .u8 105, .fn (.func 68) [.agg [lsv (encI .u8) 1 ((⟨x0⟩ : St85).Oper_.I_), lsv (encI .u8) 1 ((⟨x0⟩ : St85).Oper_.F_), .int .i64 ((⟨x0⟩ : St85).Oper_.W_), .int .i64 ((⟨x0⟩ : St85).Oper_.C_)]] []), (.int .u8 118, .fn (.func 69) [.agg [lsv (encI .u8) 1 ((⟨x0⟩ : St85).Oper_.I_), lsv (encI .u8) 1 ((⟨x0⟩ : St85).Oper_.F_), .int .i64 ((⟨x0⟩ : St85).Oper_.W_), .int .i64 ((⟨x0⟩ : St85).Oper_.C_)]] []), (.int .u8 119, .fn (.func 70) [.agg [lsv (encI .u8) 1 ((⟨x0⟩ : St85).Oper_.I_), lsv (encI .u8) 1 ((⟨x0⟩ : St85).Oper_.F_), .int .i64 ((⟨x0⟩ : St85).Oper_.W_), .int .i64 ((⟨x0⟩ : St85).Oper_.C_)]] []), (.int .u8 102, .fn (.func 71) [.agg [lsv (encI .u8) 1 ((⟨x0⟩ : St85).Oper_.I_), lsv (encI .u8) 1 ((⟨x0⟩ : St85).Oper_.F_), .int .i64 ((⟨x0⟩ : St85).Oper_.W_), .int .i64 ((⟨x0⟩ : St85).Oper_.C_)]] []), (.int .u8 116, .fn (.func 72) [.agg [lsv (encI .u8) 1 ((⟨x0⟩ : St85).Oper_.I_), lsv (encI .u8) 1 ((⟨x0⟩ : St85).Oper_.F_), .int .i64 ((⟨x0⟩ : St85).Oper_.W_), .int .i64 ((⟨x0⟩ : St85).Oper_.C_)]] []), (.int .u8 99, .fn (.func 73) [.agg [lsv (encI .u8) 1 ((⟨x0⟩ : St85).Oper_.I_), lsv (encI .u8) 1 ((⟨x0⟩ : St85).Oper_.F_), .int .i64 ((⟨x0⟩ : St85).Oper_.W_), .int .i64 ((⟨x0⟩ : St85).Oper_.C_)]] []), (.int .u8 101, .fn (.func 73) [.agg [lsv (encI .u8) 1 ((⟨x0⟩ : St85).Oper_.I_), lsv (encI .u8) 1 ((⟨x0⟩ : St85).Oper_.F_), .int .i64 ((⟨x0⟩ : St85).Oper_.W_), .int .i64 ((⟨x0⟩ : St85).Oper_.C_)]] [])] 6) (tr2 := []) (by kernel_rfl) (by simp [hitC, missC, sameB, sameE, hn13, hn20, hn27, hn34, hn41, hn48, hn55]) ?_
         refine kC 5 [4,5,6,7] ?_
         refine kEN ?_
         refine kS ?_
         refine kSR ?_
         refine kC 2 [4,5,6,20] ?_
         refine kEN ?_
         refine kF ?_
         refine kK ?_
         refine PJ.next ?_
         refine kSR ?_
         refine RJ.seg 1 [4, 5, 21] (L2 := [(4, .nl), (5, .bool false), (21, .fn (.func 73) [.agg [lsv (encI .u8) 1 ((⟨x0⟩ : St85).Oper_.I_), lsv (encI .u8) 1 ((⟨x0⟩ : St85).Oper_.F_), .int .i64 ((⟨x0⟩ : St85).Oper_.W_), .int .i64 ((⟨x0⟩ : St85).Oper_.C_)]] [])]) (H2 := [.box (encSt25 x0), .map [(.int .u8 110, .fn (.func 67) [.agg [lsv (encI .u8) 1 ((⟨x0⟩ : St85).Oper_.I_), lsv (encI .u8) 1 ((⟨x0⟩ : St85).Oper_.F_), .int .i64 ((⟨x0⟩ : St85).Oper_.W_), .int .i64 ((⟨x0⟩ : St85).Oper_.C_)]] []), (.int .u8 105, .fn (.func 68) [.agg [lsv (encI .u8) 1 ((⟨x0⟩ : St85).Oper_.I_), lsv (encI .u8) 1 ((⟨x0⟩ : St85).Oper_.F_), .int .i64 ((⟨x0⟩ : St85).Oper_.W_), .int .i64 ((⟨x0⟩ : St85).Oper_.C_)]] []), (.int .u8 118, .fn (.func 69) [.agg [lsv (encI .u8) 1 ((⟨x0⟩ : St85).Oper_.I_), lsv (encI .u8) 1 ((⟨x0⟩ : St85).Oper_.F_), .int .i64 ((⟨x0⟩ : St85).Oper_.W_), .int .i64 ((⟨x0⟩ : St85).Oper_.C_)]] []), (.int .u8 119, .fn (.func 70) [.agg [lsv (encI .u8) 1 ((⟨x0⟩ : St85).Oper_.I_), lsv (encI .u8) 1 ((⟨x0⟩ : St85).Oper_.F_), .int .i64 ((⟨x0⟩ : St85).Oper_.W_), .int .i64 ((⟨x0⟩ : St85).Oper_.C_)]] []), (.int .u8 102, .fn (.func 71) [.agg [lsv (encI .u8) 1 ((⟨x0⟩ : St85).Oper_.I_), lsv (encI .u8) 1 ((⟨x0⟩ : St85).Oper_.F_), .int .i64 ((⟨x0⟩ : St85).Oper_.W_), .int .i64 ((⟨x0⟩ : St85).Oper_.C_)]] []), (.int .u8 116, .fn (.func 72) [.agg [lsv (encI .u8) 1 ((⟨x0⟩ : St85).Oper_.I_), lsv (encI .u8) 1 ((⟨x0⟩ : St85).Oper_.F_), .int .i64 ((⟨x0⟩ : St85).Oper_.W_), .int .i64 ((⟨x0⟩ : St85).Oper_.C_)]] []), (.int .u8 99, .fn (.func 73) [.agg [lsv (encI .u8) 1 ((⟨x0⟩ : St85).Oper_.I_), lsv (encI .u8) 1 ((⟨x0⟩ : St85).Oper_.F_), .int .i64 ((⟨x0⟩ : St85).Oper_.W_), .int .i64 ((⟨x0⟩ : St85).Oper_.C_)]] []), (.int .u8 101, .fn (.func 73) [.agg [lsv (encI .u8) 1 ((⟨x0⟩ : St85).Oper_.I_), lsv (encI .u8) 1 ((⟨x0⟩ : St85).Oper_.F_), .int .i64 ((⟨x0⟩ : St85).Oper_.W_), .int .i64 ((⟨x0⟩ : St85).Oper_.C_)]] [])]]) (by kernel_rfl) ?_
         obtain ⟨y56, hy57, h58⟩ := bindS h53
         refine RJ.call0 (d := (some 22)) (f := 73) (args := [.agg [lsv (encI .u8) 1 ((⟨x0⟩ : St85).Oper_.I_), lsv (encI .u8) 1 ((⟨x0⟩ : St85).Oper_.F_), .int .i64 ((⟨x0⟩ : St85).Oper_.W_), .int .i64 ((⟨x0⟩ : St85).Oper_.C_)]]) (v := .tup [lsv (encI .u8) 1 y56.1, .bool y56.2]) (tr2 := []) (by kernel_rfl) (by kernel_rfl) (.cons (Le.refl _) .nil) (oper_asked__power_ok hy57) (by kernel_rfl) ?_
         refine kC 4 [4,5] ?_
         refine kEN ?_
         refine kX ?_
         obtain rfl := oi h58
         exact kZ hFn hFH hFD
       ·have h46 := condT hb45 h40
        have hn48 := of_decide_eq_true hb45
        refine RJ.look (some 5) (d := some 16) (ef := ⟨.tup [.fn (.func 72) [.agg [lsv (encI .u8) 1 ((⟨x0⟩ : St85).Oper_.I_), lsv (encI .u8) 1 ((⟨x0⟩ : St85).Oper_.F_), .int .i64 ((⟨x0⟩ : St85).Oper_.W_), .int .i64 ((⟨x0⟩ : St85).Oper_.C_)]] [], .bool true], [1], []⟩) (c := hitC (.int .u8 x1) [(.int .u8 110, .fn (.func 67) [.agg [lsv (encI .u8) 1 ((⟨x0⟩ : St85).Oper_.I_), lsv (encI .u8) 1 ((⟨x0⟩ : St85).Oper_.F_), .int .i64 ((⟨x0⟩ : St85).Oper_.W_), .int .i64 ((⟨x0⟩ : St85).Oper_.C_)]] []), (.int .u8 105, .fn (.func 68) [.agg [lsv (encI .u8) 1 ((⟨x0⟩ : St85).Oper_.I_), lsv (encI .u8) 1 ((⟨x0⟩ : St85).Oper_.F_), .int .i64 ((⟨x0⟩ : St85).Oper_.W_), .int .i64 ((⟨x0⟩ : St85).Oper_.C_)]] []), (.int .u8 118, .fn (.func 69) [.agg [lsv (encI .u8) 1 ((⟨x0⟩ : St85).Oper_.I_), lsv (encI .u8) 1 ((⟨x0⟩ : St85).Oper_.F_), .int .i64 ((⟨x0⟩ : St85).Oper_.W_), .int .i64 ((⟨x0⟩ : St85).Oper_.C_)]] []), (.int .u8 119, .fn (.func 70) [.agg [lsv (encI .u8) 1 ((⟨x0⟩ : St85).Oper_.I_), lsv (encI .u8) 1 ((⟨x0⟩ : St85).Oper_.F_), .int .i64 ((⟨x0⟩ : St85).Oper_.W_), .int .i64 ((⟨x0⟩ : St85).Oper_.C_)]] []), (.int .u8 102, .fn (.func 71) [.agg [lsv (encI .u8) 1 ((⟨x0⟩ : St85).Oper_.I_), lsv (encI .u8) 1 ((⟨x0⟩ : St85).Oper_.F_), .int .i64 ((⟨x0⟩ : St85).Oper_.W_), .int .i64 ((⟨x0⟩ : St85).Oper_.C_)]] []), (.int .u8 116, .fn (.func 72) [.agg [lsv (encI .u8) 1 ((⟨x0⟩ : St85).Oper_.I_), lsv (encI .u8) 1 ((⟨x0⟩ : St85).Oper_.F_), .int .i64 ((⟨x0⟩ : St85).Oper_.W_), .int .i64 ((⟨x0⟩ : St85).Oper_.C_)]] []), (.int .u8 99, .fn (.func 73) [.agg [lsv (encI .u8) 1 ((⟨x0⟩ : St85).Oper_.I_), lsv (encI .u8) 1 ((⟨x0⟩ : St85).Oper_.F_), .int .i64 ((⟨x0⟩ : St85).Oper_.W_), .int .i64 ((⟨x0⟩ : St85).Oper_.C_)]] []), (.int .u8 101, .fn (.func 73) [.agg [lsv (encI .u8) 1 ((⟨x0⟩ : St85).Oper_.I_), lsv (encI .u8) 1 ((⟨x0⟩ : St85).Oper_.F_), .int .i64 ((⟨x0⟩ : St85).Oper_.W_), .int .i64 ((⟨x0⟩ : St85).Oper_.C_)]] [])] 5) (tr2 := []) (by kernel_rfl) (by simp [hitC, missC, sameB, sameE, hn13, hn20, hn27, hn34, hn41, hn48]) ?_
        refine kC 5 [4,5,6,7] ?_
        refine kEN ?_
        refine kS ?_
        refine kSR ?_
        refine kC 2 [4,5,6,20] ?_
        refine kEN ?_
        refine kF ?_
        refine kK ?_
        refine PJ.next ?_
        refine kSR ?_
        refine RJ.seg 1 [4, 5, 21] (L2 := [(4, .nl), (5, .bool false), (21, .fn (.func 72) [.agg [lsv (encI .u8) 1 ((⟨x0⟩ : St85).Oper_.I_), lsv (encI .u8) 1 ((⟨x0⟩ : St85).Oper_.F_), .int .i64 ((⟨x0⟩ : St85).Oper_.W_), .int .i64 ((⟨x0⟩ : St85).Oper_.C_)]] [])]) (H2 := [.box (encSt25 x0), .map [(.int .u8 110, .fn (.func 67) [.agg [lsv (encI .u8) 1 ((⟨x0⟩ : St85).Oper_.I_), lsv (encI .u8) 1 ((⟨x0⟩ : St85).Oper_.F_), .int .i64 ((⟨x0⟩ : St85).Oper_.W_), .int .i64 ((⟨x0⟩ : St85).Oper_.C_)]] []), (.int .u8 105, .fn (.func 68) [.agg [lsv (encI .u8) 1 ((⟨x0⟩ : St85).Oper_.I_), lsv (encI .u8) 1 ((⟨x0⟩ : St85).Oper_.F_), .int .i64 ((⟨x0⟩ : St85).Oper_.W_), .int .i64 ((⟨x0⟩ : St85).Oper_.C_)]] []), (.int .u8 118, .fn (.func 69) [.agg [lsv (encI .u8) 1 ((⟨x0⟩ : St85).Oper_.I_), lsv (encI .u8) 1 ((⟨x0⟩ : St85).Oper_.F_), .int .i64 ((⟨x0⟩ : St85).Oper_.W_), .int .i64 ((⟨x0⟩ : St85).Oper_.C_)]] []), (.int .u8 119, .fn (.func 70) [.agg [lsv (encI .u8) 1 ((⟨x0⟩ : St85).Oper_.I_), lsv (encI .u8) 1 ((⟨x0⟩ : St85).Oper_.F_), .int .i64 ((⟨x0⟩ : St85).Oper_.W_), .int .i64 ((⟨x0⟩ : St85).Oper_.C_)]] []), (.int .u8 102, .fn (.func 71) [.agg [lsv (encI .u8) 1 ((⟨x0⟩ : St85).Oper_.I_), lsv (encI .u8) 1 ((⟨x0⟩ : St85).Oper_.F_), .int .i64 ((⟨x0⟩ : St85).Oper_.W_), .int .i64 ((⟨x0⟩ : St85).Oper_.C_)]] []), (.int .u8 116, .fn (.func 72) [.agg [lsv (encI .u8) 1 ((⟨x0⟩ : St85).Oper_.I_), lsv (encI .u8) 1 ((⟨x0⟩ : St85).Oper_.F_), .int .i64 ((⟨x0⟩ : St85).Oper_.W_), .int .i64 ((⟨x0⟩ : St85).Oper_.C_)]] []), (.int .u8 99, .fn (.func 73) [.agg [lsv (encI .u8) 1 ((⟨x0⟩ : St85).Oper_.I_), lsv (encI .u8) 1 ((⟨x0⟩ : St85).Oper_.F_), .int .i64 ((⟨x0⟩ : St85).Oper_.W_), .int .i64 ((⟨x0⟩ : St85).Oper_.C_)]] []), (.int .u8 101, .fn (.func 73) [.agg [lsv (encI .u8) 1 ((⟨x0⟩ : St85).Oper_.I_), lsv (encI .u8) 1 ((⟨x0⟩ : St85).Oper_.F_), .int .i64 ((⟨x0⟩ : St85).Oper_.W_), .int .i64 ((⟨x0⟩ : St85).Oper_.C_)]] [])]]) (by kernel_rfl) ?_
        obtain ⟨y49, hy50, h51⟩ := bindS h46
        refine RJ.call0 (d := (some 22)) (f := 72) (args := [.agg [lsv (encI .u8) 1 ((⟨x0⟩ : St85).Oper_.I_), lsv (encI .u8) 1 ((⟨x0⟩ : St85).Oper_.F_), .int .i64 ((⟨x0⟩ : St85).Oper_.W_), .int .i64 ((⟨x0⟩ : St85).Oper_.C_)]]) (v := .tup [lsv (encI .u8) 1 y49.1, .bool y49.2]) (tr2 := []) (by kernel_rfl) (by kernel_rfl) (.cons (Le.refl _) .nil) (oper_asked__cut_ok hy50) (by kernel_rfl) ?_
        refine kC 4 [4,5] ?_
        refine kEN ?_
        refine kX ?_
        obtain rfl := oi h51
        exact kZ hFn hFH hFD
      ·have h39 := condT hb38 h33
       have hn41 := of_decide_eq_true hb38
       refine RJ.look (some 4) (d := some 16) (ef := ⟨.tup [.fn (.func 71) [.agg [lsv (encI .u8) 1 ((⟨x0⟩ : St85).Oper_.I_), lsv (encI .u8) 1 ((⟨x0⟩ : St85).Oper_.F_), .int .i64 ((⟨x0⟩ : St85).Oper_.W_), .int .i64 ((⟨x0⟩ : St85).Oper_.C_)]] [], .bool true], [1], []⟩) (c := hitC (.int .u8 x1) [(.int .u8 110, .fn (.func 67) [.agg [lsv (encI .u8) 1 ((⟨x0⟩ : St85).Oper_.I_), lsv (encI .u8) 1 ((⟨x0⟩ : St85).Oper_.F_), .int .i64 ((⟨x0⟩ : St85).Oper_.W_), .int .i64 ((⟨x0⟩ : St85).Oper_.C_)]] []), (.int .u8 105, .fn (.func 68) [.agg [lsv (encI .u8) 1 ((⟨x0⟩ : St85).Oper_.I_), lsv (encI .u8) 1 ((⟨x0⟩ : St85).Oper_.F_), .int .i64 ((⟨x0⟩ : St85).Oper_.W_), .int .i64 ((⟨x0⟩ : St85).Oper_.C_)]] []), (.int .u8 118, .fn (.func 69) [.agg [lsv (encI .u8) 1 ((⟨x0⟩ : St85).Oper_.I_), lsv (encI .u8) 1 ((⟨x0⟩ : St85).Oper_.F_), .int .i64 ((⟨x0⟩ : St85).Oper_.W_), .int .i64 ((⟨x0⟩ : St85).Oper_.C_)]] []), (.int .u8 119, .fn (.func 70) [.agg [lsv (encI .u8) 1 ((⟨x0⟩ : St85).Oper_.I_), lsv (encI .u8) 1 ((⟨x0⟩ : St85).Oper_.F_), .int .i64 ((⟨x0⟩ : St85).Oper_.W_), .int .i64 ((⟨x0⟩ : St85).Oper_.C_)]] []), (.int .u8 102, .fn (.func 71) [.agg [lsv (encI .u8) 1 ((⟨x0⟩ : St85).Oper_.I_), lsv (encI .u8) 1 ((⟨x0⟩ : St85).Oper_.F_), .int .i64 ((⟨x0⟩ : St85).Oper_.W_), .int .i64 ((⟨x0⟩ : St85).Oper_.C_)]] []), (.int .u8 116, .fn (.func 72) [.agg [lsv (encI .u8) 1 ((⟨x0⟩ : St85).Oper_.I_), lsv (encI .u8) 1 ((⟨x0⟩ : St85).Oper_.F_), .int .i64 ((⟨x0⟩ : St85).Oper_.W_), .int .i64 ((⟨x0⟩ : St85).Oper_.C_)]] []), (.int .u8 99, .fn (.func 73) [.agg [lsv (encI .u8) 1 ((⟨x0⟩ : St85).Oper_.I_), lsv (encI .u8) 1 ((⟨x0⟩ : St85).Oper_.F_), .int .i64 ((⟨x0⟩ : St85).Oper_.W_), .int .i64 ((⟨x0⟩ : St85).Oper_.C_)]] []), (.int .u8 101, .fn (.func 73) [.agg [lsv (encI .u8) 1 ((⟨x0⟩ : St85).Oper_.I_), lsv (encI .u8) 1 ((⟨x0⟩ : St85).Oper_.F_), .int .i64 ((⟨x0⟩ : St85).Oper_.W_), .int .i64 ((⟨x0⟩ : St85).Oper_.C_)]] [])] 4) (tr2 := []) (by kernel_rfl) (by simp [hitC, missC, sameB, sameE, hn13, hn20, hn27, hn34, hn41]) ?_
       refine kC 5 [4,5,6,7] ?_
       refine kEN ?_
       refine kS ?_
       refine kSR ?_
       refine kC 2 [4,5,6,20] ?_
       refine kEN ?_
       refine kF ?_
       refine kK ?_
       refine PJ.next ?_
       refine kSR ?_
       refine RJ.seg 1 [4, 5, 21] (L2 := [(4, .nl), (5, .bool false), (21, .fn (.func 71) [.agg [lsv (encI .u8) 1 ((⟨x0⟩ : St85).Oper_.I_), lsv (encI .u8) 1 ((⟨x0⟩ : St85).Oper_.F_), .int .i64 ((⟨x0⟩ : St85).Oper_.W_), .int .i64 ((⟨x0⟩ : St85).Oper_.C_)]] [])]) (H2 := [.box (encSt25 x0), .map [(.int .u8 110, .fn (.func 67) [.agg [lsv (encI .u8) 1 ((⟨x0⟩ : St85).Oper_.I_), lsv (encI .u8) 1 ((⟨x0⟩ : St85).Oper_.F_), .int .i64 ((⟨x0⟩ : St85).Oper_.W_), .int .i64 ((⟨x0⟩ : St85).Oper_.C_)]] []), (.int .u8 105, .fn (.func 68) [.agg [lsv (encI .u8) 1 ((⟨x0⟩ : St85).Oper_.I_), lsv (encI .u8) 1 ((⟨x0⟩ : St85).Oper_.F_), .int .i64 ((⟨x0⟩ : St85).Oper_.W_), .int .i64 ((⟨x0⟩ : St85).Oper_.C_)]] []), (.int .u8 118, .fn (.func 69) [.agg [lsv (encI .u8) 1 ((⟨x0⟩ : St85).Oper_.I_), lsv (encI .u8) 1 ((⟨x0⟩ : St85).Oper_.F_), .int .i64 ((⟨x0⟩ : St85).Oper_.W_), .int .i64 ((⟨x0⟩ : St85).Oper_.C_)]] []), (.int .u8 119, .fn (.func 70) [.agg [lsv (encI .u8) 1 ((⟨x0⟩ : St85).Oper_.I_), lsv (encI .u8) 1 ((⟨x0⟩ : St85).Oper_.F_), .int .i64 ((⟨x0⟩ : St85).Oper_.W_), .int .i64 ((⟨x0⟩ : St85).Oper_.C_)]] []), (.int .u8 102, .fn (.func 71) [.agg [lsv (encI .u8) 1 ((⟨x0⟩ : St85).Oper_.I_), lsv (encI .u8) 1 ((⟨x0⟩ : St85).Oper_.F_), .int .i64 ((⟨x0⟩ : St85).Oper_.W_), .int .i64 ((⟨x0⟩ : St85).Oper_.C_)]] []), (.int .u8 116, .fn (.func 72) [.agg [lsv (encI .u8) 1 ((⟨x0⟩ : St85).Oper_.I_), lsv (encI .u8) 1 ((⟨x0⟩ : St85).Oper_.F_), .int .i64 ((⟨x0⟩ : St85).Oper_.W_), .int .i64 ((⟨x0⟩ : St85).Oper_.C_)]] []), (.int .u8 99, .fn (.func 73) [.agg [lsv (encI .u8) 1 ((⟨x0⟩ : St85).Oper_.I_), lsv (encI .u8) 1 ((⟨x0⟩ : St85).Oper_.F_), .int .i64 ((⟨x0⟩ : St85).Oper_.W_), .int .i64 ((⟨x0⟩ : St85).Oper_.C_)]] []), (.int .u8 101, .fn (.func 73) [.agg [lsv (encI .u8) 1 ((⟨x0⟩ : St85).Oper_.I_), lsv (encI .u8) 1 ((⟨x0⟩ : St85).Oper_.F_), .int .i64 ((⟨x0⟩ : St85).Oper_.W_), .int .i64 ((⟨x0⟩ : St85).Oper_.C_)]] [])]]) (by kernel_rfl) ?_
       obtain ⟨y42, hy43, h44⟩ := bindS h39
       refine RJ.call0 (d := (some 22)) (f := 71) (args := [.agg [lsv (encI .u8) 1 ((⟨x0⟩ : St85).Oper_.I_), lsv (encI .u8) 1 ((⟨x0⟩ : St85).Oper_.F_), .int .i64 ((⟨x0⟩ : St85).Oper_.W_), .int .i64 ((⟨x0⟩ : St85).Oper_.C_)]]) (v := .tup [lsv (encI .u8) 1 y42.1, .bool y42.2]) (tr2 := []) (by kernel_rfl) (by kernel_rfl) (.cons (Le.refl _) .nil) (oper_asked__part_ok hy43) (by kernel_rfl) ?_
       refine kC 4 [4,5] ?_
       refine kEN ?_
       refine kX ?_
       obtain rfl := oi h44
       exact kZ hFn hFH hFD
     ·have h32 := condT hb31 h26
      have hn34 := of_decide_eq_true hb31
      refine RJ.look (some 3) (d := some 16) (ef := ⟨.tup [.fn (.func 70) [.agg [lsv (encI .u8) 1 ((⟨x0⟩ : St85).Oper_.I_), lsv (encI .u8) 1 ((⟨x0⟩ : St85).Oper_.F_), .int .i64 ((⟨x0⟩ : St85).Oper_.W_), .int .i64 ((⟨x0⟩ : St85).Oper_.C_)]] [], .bool true], [1], []⟩) (c := hitC (.int .u8 x1) [(.int .u8 110, .fn (.func 67) [.agg [lsv (encI .u8) 1 ((⟨x0⟩ : St85).Oper_.I_), lsv (encI .u8) 1 ((⟨x0⟩ : St85).Oper_.F_), .int .i64 ((⟨x0⟩ : St85).Oper_.W_), .int .i64 ((⟨x0⟩ : St85).Oper_.C_)]] []), (.int .u8 105, .fn (.func 68) [.agg [lsv (encI .u8) 1 ((⟨x0⟩ : St85).Oper_.I_), lsv (encI .u8) 1 ((⟨x0⟩ : St85).Oper_.F_), .int .i64 ((⟨x0⟩ : St85).Oper_.W_), .int .i64 ((⟨x0⟩ : St85).Oper_.C_)]] []), (.int .u8 118, .fn (.func 69) [.agg [lsv (encI .u8) 1 ((⟨x0⟩ : St85).Oper_.I_), lsv (encI .u8) 1 ((⟨x0⟩ : St85).Oper_.F_), .int .i64 ((⟨x0⟩ : St85).Oper_.W_), .int .i64 ((⟨x0⟩ : St85).Oper_.C_)]] []), (.int .u8 119, .fn (.func 70) [.agg [lsv (encI .u8) 1 ((⟨x0⟩ : St85).Oper_.I_), lsv (encI .u8) 1 ((⟨x0⟩ : St85).Oper_.F_), .int .i64 ((⟨x0⟩ : St85).Oper_.W_), .int .i64 ((⟨x0⟩ : St85).Oper_.C_)]] []), (.int .u8 102, .fn (.func 71) [.agg [lsv (encI .u8) 1 ((⟨x0⟩ : St85).Oper_.I_), lsv (encI .u8) 1 ((⟨x0⟩ : St85).Oper_.F_), .int .i64 ((⟨x0⟩ : St85).Oper_.W_), .int .i64 ((⟨x0⟩ : St85).Oper_.C_)]] []), (.int .u8 116, .fn (.func 72) [.agg [lsv (encI .u8) 1 ((⟨x0⟩ : St85).Oper_.I_), lsv (encI .u8) 1 ((⟨x0⟩ : St85).Oper_.F_), .int .i64 ((⟨x0⟩ : St85).Oper_.W_), .int .i64 ((⟨x0⟩ : St85).Oper_.C_)]] []), (.int .u8 99, .fn (.func 73) [.agg [lsv (encI .u8) 1 ((⟨x0⟩ : St85).Oper_.I_), lsv (encI .u8) 1 ((⟨x0⟩ : St85).Oper_.F_), .int .i64 ((⟨x0⟩ : St85).Oper_.W_), .int .i64 ((⟨x0⟩ : St85).Oper_.C_)]] []), (.int .u8 101, .fn (.func 73) [.agg [lsv (encI .u8) 1 ((⟨x0⟩ : St85).Oper_.I_), lsv (encI .u8) 1 ((⟨x0⟩ : St85).Oper_.F_), .int .i64 ((⟨x0⟩ : St85).Oper_.W_), .int .i64 ((⟨x0⟩ : St85).Oper_.C_)]] [])] 3) (tr2 := []) (by kernel_rfl) (by simp [hitC, missC, sameB, sameE, hn13, hn20, hn27, hn34]) ?_
      refine kC 5 [4,5,6,7] ?_
      refine kEN ?_
      refine kS ?_
      refine kSR ?_
      refine kC 2 [4,5,6,20] ?_
      refine kEN ?_
      refine kF ?_
      refine kK ?_
      refine PJ.next ?_
      refine kSR ?_
      refine RJ.seg 1 [4, 5, 21] (L2 := [(4, .nl), (5, .bool false), (21, .fn (.func 70) [.agg [lsv (encI .u8) 1 ((⟨x0⟩ : St85).Oper_.I_), lsv (encI .u8) 1 ((⟨x0⟩ : St85).Oper_.F_), .int .i64 ((⟨x0⟩ : St85).Oper_.W_), .int .i64 ((⟨x0⟩ : St85).Oper_.C_)]] [])]) (H2 := [.box (encSt25 x0), .map [(.int .u8 110, .fn (.func 67) [.agg [lsv (encI .u8) 1 ((⟨x0⟩ : St85).Oper_.I_), lsv (encI .u8) 1 ((⟨x0⟩ : St85).Oper_.F_), .int .i64 ((⟨x0⟩ : St85).Oper_.W_), .int .i64 ((⟨x0⟩ : St85).Oper_.C_)]] []), (.int .u8 105, .fn (.func 68) [.agg [lsv (encI .u8) 1 ((⟨x0⟩ : St85).Oper_.I_), lsv (encI .u8) 1 ((⟨x0⟩ : St85).Oper_.F_), .int .i64 ((⟨x0⟩ : St85).Oper_.W_), .int .i64 ((⟨x0⟩ : St85).Oper_.C_)]] []), (.int .u8 118, .fn (.func 69) [.agg [lsv (encI .u8) 1 ((⟨x0⟩ : St85).Oper_.I_), lsv (encI .u8) 1 ((⟨x0⟩ : St85).Oper_.F_), .int .i64 ((⟨x0⟩ : St85).Oper_.W_), .int .i64 ((⟨x0⟩ : St85).Oper_.C_)]] []), (.int .u8 119, .fn (.func 70) [.agg [lsv (encI .u8) 1 ((⟨x0⟩ : St85).Oper_.I_), lsv (encI .u8) 1 ((⟨x0⟩ : St85).Oper_.F_), .int .i64 ((⟨x0⟩ : St85).Oper_.W_), .int .i64 ((⟨x0⟩ : St85).Oper_.C_)]] []), (.int .u8 102, .fn (.func 71) [.agg [lsv (encI .u8) 1 ((⟨x0⟩ : St85).Oper_.I_), lsv (encI .u8) 1 ((⟨x0⟩ : St85).Oper_.F_), .int .i64 ((⟨x0⟩ : St85).Oper_.W_), .int .i64 ((⟨x0⟩ : St85).Oper_.C_)]] []), (.int .u8 116, .fn (.func 72) [.agg [lsv (encI .u8) 1 ((⟨x0⟩ : St85).Oper_.I_), lsv (encI .u8) 1 ((⟨x0⟩ : St85).Oper_.F_), .int .i64 ((⟨x0⟩ : St85).Oper_.W_), .int .i64 ((⟨x0⟩ : St85).Oper_.C_)]] []), (.int .u8 99, .fn (.func 73) [.agg [lsv (encI .u8) 1 ((⟨x0⟩ : St85).Oper_.I_), lsv (encI .u8) 1 ((⟨x0⟩ : St85).Oper_.F_), .int .i64 ((⟨x0⟩ : St85).Oper_.W_), .int .i64 ((⟨x0⟩ : St85).Oper_.C_)]] []), (.int .u8 101, .fn (.func 73) [.agg [lsv (encI .u8) 1 ((⟨x0⟩ : St85).Oper_.I_), lsv (encI .u8) 1 ((⟨x0⟩ : St85).Oper_.F_), .int .i64 ((⟨x0⟩ : St85).Oper_.W_), .int .i64 ((⟨x0⟩ : St85).Oper_.C_)]] [])]]) (by kernel_rfl) ?_
      obtain ⟨y35, hy36, h37⟩ := bindS h32
      refine RJ.call0 (d := (some 22)) (f := 70) (args := [.agg [lsv (encI .u8) 1 ((⟨x0⟩ : St85).Oper_.I_), lsv (encI .u8) 1 ((⟨x0⟩ : St85).Oper_.F_), .int .i64 ((⟨x0⟩ : St85).Oper_.W_), .int .i64 ((⟨x0⟩ : St85).Oper_.C_)]]) (v := .tup [lsv (encI .u8) 1 y35.1, .bool y35.2]) (tr2 := []) (by kernel_rfl) (by kernel_rfl) (.cons (Le.refl _) .nil) (oper_asked__short_ok hy36) (by kernel_rfl) ?_
      refine kC 4 [4,5] ?_
      refine kEN ?_
      refine kX ?_
      obtain rfl := oi h37
      exact kZ hFn hFH hFD
    ·have h25 := condT hb24 h19
     have hn27 := of_decide_eq_true hb24
     refine RJ.look (some 2) (d := some 16) (ef := ⟨.tup [.fn (.func 69) [.agg [lsv (encI .u8) 1 ((⟨x0⟩ : St85).Oper_.I_), lsv (encI .u8) 1 ((⟨x0⟩ : St85).Oper_.F_), .int .i64 ((⟨x0⟩ : St85).Oper_.W_), .int .i64 ((⟨x0⟩ : St85).Oper_.C_)]] [], .bool true], [1], []⟩) (c := hitC (.int .u8 x1) [(.int .u8 110, .fn (.func 67) [.agg [lsv (encI .u8) 1 ((⟨x0⟩ : St85).Oper_.I_), lsv (encI .u8) 1 ((⟨x0⟩ : St85).Oper_.F_), .int .i64 ((⟨x0⟩ : St85).Oper_.W_), .int .i64 ((⟨x0⟩ : St85).Oper_.C_)]] []), (.int .u8 105, .fn (.func 68) [.agg [lsv (encI .u8) 1 ((⟨x0⟩ : St85).Oper_.I_), lsv (encI .u8) 1 ((⟨x0⟩ : St85).Oper_.F_), .int .i64 ((⟨x0⟩ : St85).Oper_.W_), .int .i64 ((⟨x0⟩ : St85).Oper_.C_)]] []), (.int .u8 118, .fn (.func 69) [.agg [lsv (encI .u8) 1 ((⟨x0⟩ : St85).Oper_.I_), lsv (encI .u8) 1 ((⟨x0⟩ : St85).Oper_.F_), .int .i64 ((⟨x0⟩ : St85).Oper_.W_), .int .i64 ((⟨x0⟩ : St85).Oper_.C_)]] []), (.int .u8 119, .fn (.func 70) [.agg [lsv (encI .u8) 1 ((⟨x0⟩ : St85).Oper_.I_), lsv (encI .u8) 1 ((⟨x0⟩ : St85).Oper_.F_), .int .i64 ((⟨x0⟩ : St85).Oper_.W_), .int .i64 ((⟨x0⟩ : St85).Oper_.C_)]] []), (.int .u8 102, .fn (.func 71) [.agg [lsv (encI .u8) 1 ((⟨x0⟩ : St85).Oper_.I_), lsv (encI .u8) 1 ((⟨x0⟩ : St85).Oper_.F_), .int .i64 ((⟨x0⟩ : St85).Oper_.W_), .int .i64 ((⟨x0⟩ : St85).Oper_.C_)]] []), (.int .u8 116, .fn (.func 72) [.agg [lsv (encI .u8) 1 ((⟨x0⟩ : St85).Oper_.I_), lsv (encI .u8) 1 ((⟨x0⟩ : St85).Oper_.F_), .int .i64 ((⟨x0⟩ : St85).Oper_.W_), .int .i64 ((⟨x0⟩ : St85).Oper_.C_)]] []), (.int .u8 99, .fn (.func 73) [.agg [lsv (encI .u8) 1 ((⟨x0⟩ : St85).Oper_.I_), lsv (encI .u8) 1 ((⟨x0⟩ : St85).Oper_.F_), .int .i64 ((⟨x0⟩ : St85).Oper_.W_), .int .i64 ((⟨x0⟩ : St85).Oper_.C_)]] []), (.int .u8 101, .fn (.func 73) [.agg [lsv (encI .u8) 1 ((⟨x0⟩ : St85).Oper_.I_), lsv (encI .u8) 1 ((⟨x0⟩ : St85).Oper_.F_), .int .i64 ((⟨x0⟩ : St85).Oper_.W_), .int .i64 ((⟨x0⟩ : St85).Oper_.C_)]] [])] 2) (tr2 := []) (by kernel_rfl) (by simp [hitC, missC, sameB, sameE, hn13, hn20, hn27]) ?_
     refine kC 5 [4,5,6,7] ?_
     refine kEN ?_
     refine kS ?_
     refine kSR ?_
     refine kC 2 [4,5,6,20] ?_
     refine kEN ?_
     refine kF ?_
     refine kK ?_
     refine PJ.next ?_
     refine kSR ?_
     refine RJ.seg 1 [4, 5, 21] (L2 := [(4, .nl), (5, .bool false), (21, .fn (.func 69) [.agg [lsv (encI .u8) 1 ((⟨x0⟩ : St85).Oper_.I_), lsv (encI .u8) 1 ((⟨x0⟩ : St85).Oper_.F_), .int .i64 ((⟨x0⟩ : St85).Oper_.W_), .int .i64 ((⟨x0⟩ : St85).Oper_.C_)]] [])]) (H2 := [.box (encSt25 x0), .map [(.int .u8 110, .fn (.func 67) [.agg [lsv (encI .u8) 1 ((⟨x0⟩ : St85).Oper_.I_), lsv (encI .u8) 1 ((⟨x0⟩ : St85).Oper_.F_), .int .i64 ((⟨x0⟩ : St85).Oper_.W_), .int .i64 ((⟨x0⟩ : St85).Oper_.C_)]] []), (.int .u8 105, .fn (.func 68) [.agg [lsv (encI .u8) 1 ((⟨x0⟩ : St85).Oper_.I_), lsv (encI .u8) 1 ((⟨x0⟩ : St85).Oper_.F_), .int .i64 ((⟨x0⟩ : St85).Oper_.W_), .int .i64 ((⟨x0⟩ : St85).Oper_.C_)]] []), (.int .u8 118, .fn (.func 69) [.agg [lsv (encI .u8) 1 ((⟨x0⟩ : St85).Oper_.I_), lsv (encI .u8) 1 ((⟨x0⟩ : St85).Oper_.F_), .int .i64 ((⟨x0⟩ : St85).Oper_.W_), .int .i64 ((⟨x0⟩ : St85).Oper_.C_)]] []), (.int .u8 119, .fn (.func 70) [.agg [lsv (encI .u8) 1 ((⟨x0⟩ : St85).Oper_.I_), lsv (encI .u8) 1 ((⟨x0⟩ : St85).Oper_.F_), .int .i64 ((⟨x0⟩ : St85).Oper_.W_), .int .i64 ((⟨x0⟩ : St85).Oper_.C_)]] []), (.int .u8 102, .fn (.func 71) [.agg [lsv (encI .u8) 1 ((⟨x0⟩ : St85).Oper_.I_), lsv (encI .u8) 1 ((⟨x0⟩ : St85).Oper_.F_), .int .i64 ((⟨x0⟩ : St85).Oper_.W_), .int .i64 ((⟨x0⟩ : St85).Oper_.C_)]] []), (.int .u8 116, .fn (.func 72) [.agg [lsv (encI .u8) 1 ((⟨x0⟩ : St85).Oper_.I_), lsv (encI .u8) 1 ((⟨x0⟩ : St85).Oper_.F_), .int .i64 ((⟨x0⟩ : St85).Oper_.W_), .int .i64 ((⟨x0⟩ : St85).Oper_.C_)]] []), (.int .u8 99, .fn (.func 73) [.agg [lsv (encI .u8) 1 ((⟨x0⟩ : St85).Oper_.I_), lsv (encI .u8) 1 ((⟨x0⟩ : St85).Oper_.F_), .int .i64 ((⟨x0⟩ : St85).Oper_.W_), .int .i64 ((⟨x0⟩ : St85).Oper_.C_)]] []), (.int .u8 101, .fn (.func 73) [.agg [lsv (encI .u8) 1 ((⟨x0⟩ : St85).Oper_.I_), lsv (encI .u8) 1 ((⟨x0⟩ : St85).Oper_.F_), .int .i64 ((⟨x0⟩ : St85).Oper_.W_), .int .i64 ((⟨x0⟩ : St85).Oper_.C_)]] [])]]) (by kernel_rfl) ?_
     obtain ⟨y28, hy29, h30⟩ := bindS h25
     refine RJ.call0 (d := (some 22)) (f := 69) (args := [.agg [lsv (encI .u8) 1 ((⟨x0⟩ : St85).Oper_.I_), lsv (encI .u8) 1 ((⟨x0⟩ : St85).Oper_.F_), .int .i64 ((⟨x0⟩ : St85).Oper_.W_), .int .i64 ((⟨x0⟩ : St85).Oper_.C_)]]) (v := .tup [lsv (encI .u8) 1 y28.1, .bool y28.2]) (tr2 := []) (by kernel_rfl) (by kernel_rfl) (.cons (Le.refl _) .nil) (oper_asked__long_ok hy29) (by kernel_rfl) ?_
     refine kC 4 [4,5] ?_
     refine kEN ?_
     refine kX ?_
     obtain rfl := oi h30
     exact kZ hFn hFH hFD
   ·have h18 := condT hb17 h12
    have hn20 := of_decide_eq_true hb17
    refine RJ.look (some 1) (d := some 16) (ef := ⟨.tup [.fn (.func 68) [.agg [lsv (encI .u8) 1 ((⟨x0⟩ : St85).Oper_.I_), lsv (encI .u8) 1 ((⟨x0⟩ : St85).Oper_.F_), .int .i64 ((⟨x0⟩ : St85).Oper_.W_), .int .i64 ((⟨x0⟩ : St85).Oper_.C_)]] [], .bool true], [1], []⟩) (c := hitC (.int .u8 x1) [(.int .u8 110, .fn (.func 67) [.agg [lsv (encI .u8) 1 ((⟨x0⟩ : St85).Oper_.I_), lsv (encI .u8) 1 ((⟨x0⟩ : St85).Oper_.F_), .int .i64 ((⟨x0⟩ : St85).Oper_.W_), .int .i64 ((⟨x0⟩ : St85).Oper_.C_)]] []), (.int .u8 105, .fn (.func 68) [.agg [lsv (encI .u8) 1 ((⟨x0⟩ : St85).Oper_.I_), lsv (encI .u8) 1 ((⟨x0⟩ : St85).Oper_.F_), .int .i64 ((⟨x0⟩ : St85).Oper_.W_), .int .i64 ((⟨x0⟩ : St85).Oper_.C_)]] []), (.int .u8 118, .fn (.func 69) [.agg [lsv (encI .u8) 1 ((⟨x0⟩ : St85).Oper_.I_), lsv (encI .u8) 1 ((⟨x0⟩ : St85).Oper_.F_), .int .i64 ((⟨x0⟩ : St85).Oper_.W_), .int .i64 ((⟨x0⟩ : St85).Oper_.C_)]] []), (.int .u8 119, .fn (.func 70) [.agg [lsv (encI .u8) 1 ((⟨x0⟩ : St85).Oper_.I_), lsv (encI .u8) 1 ((⟨x0⟩ : St85).Oper_.F_), .int .i64 ((⟨x0⟩ : St85).Oper_.W_), .int .i64 ((⟨x0⟩ : St85).Oper_.C_)]] []), (.int .u8 102, .fn (.func 71) [.agg [lsv (encI .u8) 1 ((⟨x0⟩ : St85).Oper_.I_), lsv (encI .u8) 1 ((⟨x0⟩ : St85).Oper_.F_), .int .i64 ((⟨x0⟩ : St85).Oper_.W_), .int .i64 ((⟨x0⟩ : St85).Oper_.C_)]] []), (.int .u8 116, .fn (.func 72) [.agg [lsv (encI .u8) 1 ((⟨x0⟩ : St85).Oper_.I_), lsv (encI .u8) 1 ((⟨x0⟩ : St85).Oper_.F_), .int .i64 ((⟨x0⟩ : St85).Oper_.W_), .int .i64 ((⟨x0⟩ : St85).Oper_.C_)]] []), (.int .u8 99, .fn (.func 73) [.agg [lsv (encI .u8) 1 ((⟨x0⟩ : St85).Oper_.I_), lsv (encI .u8) 1 ((⟨x0⟩ : St85).Oper_.F_), .int .i64 ((⟨x0⟩ : St85).Oper_.W_), .int .i64 ((⟨x0⟩ : St85).Oper_.C_)]] []), (.int .u8 101, .fn (.func 73) [.agg [lsv (encI .u8) 1 ((⟨x0⟩ : St85).Oper_.I_), lsv (encI .u8) 1 ((⟨x0⟩ : St85).Oper_.F_), .int .i64 ((⟨x0⟩ : St85).Oper_.W_), .int .i64 ((⟨x0⟩ : St85).Oper_.C_)]] [])] 1) (tr2 := []) (by kernel_rfl) (by simp [hitC, missC, sameB, sameE, hn13, hn20]) ?_
    refine kC 5 [4,5,6,7] ?_
    refine kEN ?_
    refine kS ?_
    refine kSR ?_
    refine kC 2 [4,5,6,20] ?_
    refine kEN ?_
    refine kF ?_
    refine kK ?_
    refine PJ.next ?_
    refine kSR ?_
    refine RJ.seg 1 [4, 5, 21] (L2 := [(4, .nl), (5, .bool false), (21, .fn (.func 68) [.agg [lsv (encI .u8) 1 ((⟨x0⟩ : St85).Oper_.I_), lsv (encI .u8) 1 ((⟨x0⟩ : St85).Oper_.F_), .int .i64 ((⟨x0⟩ : St85).Oper_.W_), .int .i64 ((⟨x0⟩ : St85).Oper_.C_)]] [])]) (H2 := [.box (encSt25 x0), .map [(.int .u8 110, .fn (.func 67) [.agg [lsv (encI .u8) 1 ((⟨x0⟩ : St85).Oper_.I_), lsv (encI .u8) 1 ((⟨x0⟩ : St85).Oper_.F_), .int .i64 ((⟨x0⟩ : St85).Oper_.W_), .int .i64 ((⟨x0⟩ : St85).Oper_.C_)]] []), (.int .u8 105, .fn (.func 68) [.agg [lsv (encI .u8) 1 ((⟨x0⟩ : St85).Oper_.I_), lsv (encI .u8) 1 ((⟨x0⟩ : St85).Oper_.F_), .int .i64 ((⟨x0⟩ : St85).Oper_.W_), .int .i64 ((⟨x0⟩ : St85).Oper_.C_)]] []), (.int .u8 118, .fn (.func 69) [.agg [lsv (encI .u8) 1 ((⟨x0⟩ : St85).Oper_.I_), lsv (encI .u8) 1 ((⟨x0⟩ : St85).Oper_.F_), .int .i64 ((⟨x0⟩ : St85).Oper_.W_), .int .i64 ((⟨x0⟩ : St85).Oper_.C_)]] []), (.int .u8 119, .fn (.func 70) [.agg [lsv (encI .u8) 1 ((⟨x0⟩ : St85).Oper_.I_), lsv (encI .u8) 1 ((⟨x0⟩ : St85).Oper_.F_), .int .i64 ((⟨x0⟩ : St85).Oper_.W_), .int .i64 ((⟨x0⟩ : St85).Oper_.C_)]] []), (.int .u8 102, .fn (.func 71) [.agg [lsv (encI .u8) 1 ((⟨x0⟩ : St85).Oper_.I_), lsv (encI .u8) 1 ((⟨x0⟩ : St85).Oper_.F_), .int .i64 ((⟨x0⟩ : St85).Oper_.W_), .int .i64 ((⟨x0⟩ : St85).Oper_.C_)]] []), (.int .u8 116, .fn (.func 72) [.agg [lsv (encI .u8) 1 ((⟨x0⟩ : St85).Oper_.I_), lsv (encI .u8) 1 ((⟨x0⟩ : St85).Oper_.F_), .int .i64 ((⟨x0⟩ : St85).Oper_.W_), .int .i64 ((⟨x0⟩ : St85).Oper_.C_)]] []), (.int .u8 99, .fn (.func 73) [.agg [lsv (encI .u8) 1 ((⟨x0⟩ : St85).Oper_.I_), lsv (encI .u8) 1 ((⟨x0⟩ : St85).Oper_.F_), .int .i64 ((⟨x0⟩ : St85).Oper_.W_), .int .i64 ((⟨x0⟩ : St85).Oper_.C_)]] []), (.int .u8 101, .fn (.func 73) [.agg [lsv (encI .u8) 1 ((⟨x0⟩ : St85).Oper_.I_), lsv (encI .u8) 1 ((⟨x0⟩ : St85).Oper_.F_), .int .i64 ((⟨x0⟩ : St85).Oper_.W_), .int .i64 ((⟨x0⟩ : St85).Oper_.C_)]] [])]]) (by kernel_rfl) ?_
    obtain ⟨y21, hy22, h23⟩ := bindS h18
    refine RJ.call0 (d := (some 22)) (f := 68) (args := [.agg [lsv (encI .u8) 1 ((⟨x0⟩ : St85).Oper_.I_), lsv (encI .u8) 1 ((⟨x0⟩ : St85).Oper_.F_), .int .i64 ((⟨x0⟩ : St85).Oper_.W_), .int .i64 ((⟨x0⟩ : St85).Oper_.C_)]]) (v := .tup [lsv (encI .u8) 1 y21.1, .bool y21.2]) (tr2 := []) (by kernel_rfl) (by kernel_rfl) (.cons (Le.refl _) .nil) (oper_asked__whole_ok hy22) (by kernel_rfl) ?_
    refine kC 4 [4,5] ?_
    refine kEN ?_
    refine kX ?_
    obtain rfl := oi h23
    exact kZ hFn hFH hFD
  ·have h11 := condT hb10 h9
   have hn13 := of_decide_eq_true hb10
   refine RJ.look (some 0) (d := some 16) (ef := ⟨.tup [.fn (.func 67) [.agg [lsv (encI .u8) 1 ((⟨x0⟩ : St85).Oper_.I_), lsv (encI .u8) 1 ((⟨x0⟩ : St85).Oper_.F_), .int .i64 ((⟨x0⟩ : St85).Oper_.W_), .int .i64 ((⟨x0⟩ : St85).Oper_.C_)]] [], .bool true], [1], []⟩) (c := hitC (.int .u8 x1) [(.int .u8 110, .fn (.func 67) [.agg [lsv (encI .u8) 1 ((⟨x0⟩ : St85).Oper_.I_), lsv (encI .u8) 1 ((⟨x0⟩ : St85).Oper_.F_), .int .i64 ((⟨x0⟩ : St85).Oper_.W_), .int .i64 ((⟨x0⟩ : St85).Oper_.C_)]] []), (.int .u8 105, .fn (.func 68) [.agg [lsv (encI .u8) 1 ((⟨x0⟩ : St85).Oper_.I_), lsv (encI .u8) 1 ((⟨x0⟩ : St85).Oper_.F_), .int .i64 ((⟨x0⟩ : St85).Oper_.W_), .int .i64 ((⟨x0⟩ : St85).Oper_.C_)]] []), (.int .u8 118, .fn (.func 69) [.agg [lsv (encI .u8) 1 ((⟨x0⟩ : St85).Oper_.I_), lsv (encI .u8) 1 ((⟨x0⟩ : St85).Oper_.F_), .int .i64 ((⟨x0⟩ : St85).Oper_.W_), .int .i64 ((⟨x0⟩ : St85).Oper_.C_)]] []), (.int .u8 119, .fn (.func 70) [.agg [lsv (encI .u8) 1 ((⟨x0⟩ : St85).Oper_.I_), lsv (encI .u8) 1 ((⟨x0⟩ : St85).Oper_.F_), .int .i64 ((⟨x0⟩ : St85).Oper_.W_), .int .i64 ((⟨x0⟩ : St85).Oper_.C_)]] []), (.int .u8 102, .fn (.func 71) [.agg [lsv (encI .u8) 1 ((⟨x0⟩ : St85).Oper_.I_), lsv (encI .u8) 1 ((⟨x0⟩ : St85).Oper_.F_), .int .i64 ((⟨x0⟩ : St85).Oper_.W_), .int .i64 ((⟨x0⟩ : St85).Oper_.C_)]] []), (.int .u8 116, .fn (.func 72) [.agg [lsv (encI .u8) 1 ((⟨x0⟩ : St85).Oper_.I_), lsv (encI .u8) 1 ((⟨x0⟩ : St85).Oper_.F_), .int .i64 ((⟨x0⟩ : St85).Oper_.W_), .int .i64 ((⟨x0⟩ : St85).Oper_.C_)]] []), (.int .u8 99, .fn (.func 73) [.agg [lsv (encI .u8) 1 ((⟨x0⟩ : St85).Oper_.I_), lsv (encI .u8) 1 ((⟨x0⟩ : St85).Oper_.F_), .int .i64 ((⟨x0⟩ : St85).Oper_.W_), .int .i64 ((⟨x0⟩ : St85).Oper_.C_)]] []), (.int .u8 101, .fn (.func 73) [.agg [lsv (encI .u8) 1 ((⟨x0⟩ : St85).Oper_.I_), lsv (encI .u8) 1 ((⟨x0⟩ : St85).Oper_.F_), .int .i64 ((⟨x0⟩ : St85).Oper_.W_), .int .i64 ((⟨x0⟩ : St85).Oper_.C_)]] [])] 0) (tr2 := []) (by kernel_rfl) (by simp [hitC, missC, sameB, sameE, hn13]) ?_
   refine kC 5 [4,5,6,7] ?_
   refine kEN ?_
   refine kS ?_
   refine kSR ?_
   refine kC 2 [4,5,6,20] ?_
   refine kEN ?_
   refine kF ?_
   refine kK ?_
   refine PJ.next ?_
   refine kSR ?_
   refine RJ.seg 1 [4, 5, 21] (L2 := [(4, .nl), (5, .bool false), (21, .fn (.func 67) [.agg [lsv (encI .u8) 1 ((⟨x0⟩ : St85).Oper_.I_), lsv (encI .u8) 1 ((⟨x0⟩ : St85).Oper_.F_), .int .i64 ((⟨x0⟩ : St85).Oper_.W_), .int .i64 ((⟨x0⟩ : St85).Oper_.C_)]] [])]) (H2 := [.box (encSt25 x0), .map [(.int .u8 110, .fn (.func 67) [.agg [lsv (encI .u8) 1 ((⟨x0⟩ : St85).Oper_.I_), lsv (encI .u8) 1 ((⟨x0⟩ : St85).Oper_.F_), .int .i64 ((⟨x0⟩ : St85).Oper_.W_), .int .i64 ((⟨x0⟩ : St85).Oper_.C_)]] []), (.int .u8 105, .fn (.func 68) [.agg [lsv (encI .u8) 1 ((⟨x0⟩ : St85).Oper_.I_), lsv (encI .u8) 1 ((⟨x0⟩ : St85).Oper_.F_), .int .i64 ((⟨x0⟩ : St85).Oper_.W_), .int .i64 ((⟨x0⟩ : St85).Oper_.C_)]] []), (.int .u8 118, .fn (.func 69) [.agg [lsv (encI .u8) 1 ((⟨x0⟩ : St85).Oper_.I_), lsv (encI .u8) 1 ((⟨x0⟩ : St85).Oper_.F_), .int .i64 ((⟨x0⟩ : St85).Oper_.W_), .int .i64 ((⟨x0⟩ : St85).Oper_.C_)]] []), (.int .u8 119, .fn (.func 70) [.agg [lsv (encI .u8) 1 ((⟨x0⟩ : St85).Oper_.I_), lsv (encI .u8) 1 ((⟨x0⟩ : St85).Oper_.F_), .int .i64 ((⟨x0⟩ : St85).Oper_.W_), .int .i64 ((⟨x0⟩ : St85).Oper_.C_)]] []), (.int .u8 102, .fn (.func 71) [.agg [lsv (encI .u8) 1 ((⟨x0⟩ : St85).Oper_.I_), lsv (encI .u8) 1 ((⟨x0⟩ : St85).Oper_.F_), .int .i64 ((⟨x0⟩ : St85).Oper_.W_), .int .i64 ((⟨x0⟩ : St85).Oper_.C_)]] []), (.int .u8 116, .fn (.func 72) [.agg [lsv (encI .u8) 1 ((⟨x0⟩ : St85).Oper_.I_), lsv (encI .u8) 1 ((⟨x0⟩ : St85).Oper_.F_), .int .i64 ((⟨x0⟩ : St85).Oper_.W_), .int .i64 ((⟨x0⟩ : St85).Oper_.C_)]] []), (.int .u8 99, .fn (.func 73) [.agg [lsv (encI .u8) 1 ((⟨x0⟩ : St85).Oper_.I_), lsv (encI .u8) 1 ((⟨x0⟩ : St85).Oper_.F_), .int .i64 ((⟨x0⟩ : St85).Oper_.W_), .int .i64 ((⟨x0⟩ : St85).Oper_.C_)]] []), (.int .u8 101, .fn (.func 73) [.agg [lsv (encI .u8) 1 ((⟨x0⟩ : St85).Oper_.I_), lsv (encI .u8) 1 ((⟨x0⟩ : St85).Oper_.F_), .int .i64 ((⟨x0⟩ : St85).Oper_.W_), .int .i64 ((⟨x0⟩ : St85).Oper_.C_)]] [])]]) (by kernel_rfl) ?_
   obtain ⟨y14, hy15, h16⟩ := bindS h11
   refine RJ.call0 (d := (some 22)) (f := 67) (args := [.agg [lsv (encI .u8) 1 ((⟨x0⟩ : St85).Oper_.I_), lsv (encI .u8) 1 ((⟨x0⟩ : St85).Oper_.F_), .int .i64 ((⟨x0⟩ : St85).Oper_.W_), .int .i64 ((⟨x0⟩ : St85).Oper_.C_)]]) (v := .tup [lsv (encI .u8) 1 y14.1, .bool y14.2]) (tr2 := []) (by kernel_rfl) (by kernel_rfl) (.cons (Le.refl _) .nil) (oper_asked__number_ok hy15) (by kernel_rfl) ?_
   refine kC 4 [4,5] ?_
   refine kEN ?_
   refine kX ?_
   obtain rfl := oi h16
   exact kZ hFn hFH hFD
def oper_Mod (x0 : List Int) (x1 : Int) : Option (Int) :=
 (Option.bind (Option.bind (bif (decide (x1 < 1)) then (some true) else (some (decide (x1 > 1000000000)))) fun (s24 : Bool) => (bif s24 then (some (.inr 0)) else (some (.inl ())))) (joinX fun (s16 : Unit) => (Option.bind (loopN (fun (s65 : Int × Int) => (bif (decide (s65.2 < (x0.length : Int))) then (bif inR s65.2 x0.length then (bif nz x1 then (some (.inl ((Int.tmod ((IntKind.wrap .i64 ((IntKind.wrap .i64 (s65.1 * 10)) + (IntKind.wrap .i64 (nth x0 s65.2))))) x1), (IntKind.wrap .i64 (s65.2 + 1))))) else none) else none) else (some (.inr s65.1)))) big (0, 0)) fun (s60 : Int) => (some s60))))
theorem oper_Mod_ok {x0 : List Int} {x1 : Int} {r : Int} (h : oper_Mod x0 x1 = some r) : SC Tryz.prog 54 [lsv (encI .u8) 1 x0, .int .i64 x1] [] (.int .i64 r) [] := by
 refine kFn (fn := Tryz.f54) (fun F hFn hFH hFD => ?_)
 unfold oper_Mod at h
 refine kSR ?_
 refine kC 1 [0,1,4] ?_
 refine kEN ?_
 obtain ⟨y17, hy18, h19⟩ := bindS h
 refine K.cutX (by kernel_rfl) (fun (s16 : Unit) => ([(0, lsv (encI .u8) 1 x0), (1, .int .i64 x1), (4, .int .i64 0)], [])) y17 ?_ (fun s16 hs => ?_)
 ·obtain ⟨s24, hy26, h28⟩ := bindS hy18
  refine K.cutN (by kernel_rfl) (fun (s24 : Bool) => ([(0, lsv (encI .u8) 1 x0), (1, .int .i64 x1), (4, .int .i64 0), (13, .bool s24)], [])) s24 ?_ ?_
  ·refine kR ?_
   refine kC 3 [0,1,4,10] ?_
   refine RJ.caseB 10 (b := (decide (x1 < 1))) (by kernel_rfl) (fun hb29 => ?_) (fun hb29 => ?_)
   ·have h30 := condT hb29 hy26
    refine kC 3 [0,1,4,13] ?_
    refine kE ?_
    obtain rfl := oi h30
    exact kN [0, 1, 4, 13]
   ·have h31 := condF hb29 hy26
    refine kC 3 [0,1,4,13] ?_
    refine kE ?_
    obtain rfl := oi h31
    exact kN [0, 1, 4, 13]
  ·refine J.caseB 13 (b := s24) (by kernel_rfl) (fun hb32 => ?_) (fun hb32 => ?_)
   ·have h33 := condT hb32 h28
    refine kT ?_
    refine kSR ?_
    refine kC 1 [0,1,4] ?_
    refine kEN ?_
    refine kX ?_
    obtain rfl := oi h33
    have h35 := joinX_inr h19
    refine PJ.cutXr (fun e => nomatch e) ?_
    obtain rfl := oi h35
    exact kZ hFn hFH hFD
   ·have h34 := condF hb32 h28
    refine kF ?_
    refine kK ?_
    obtain rfl := oi h34
    exact PJ.cutXl [0, 1, 4] (by kernel_rfl) (by kernel_rfl)
 ·subst hs
  have h20 := joinX_inl h19
  refine kSR ?_
  refine kC 1 [0,1,4,5] ?_
  refine kEN ?_
  obtain ⟨s60, hy62, h64⟩ := bindS h20
  refine K.cutN (by kernel_rfl) (fun (s60 : Int) => ([(4, .int .i64 0), (5, .int .i64 s60)], [])) s60 ?_ ?_
  ·refine kSR ?_
   refine kC 3 [1,4,5,14,15,16] ?_
   refine kEN ?_
   refine K.block 0 (by kernel_rfl) ?_
   refine K.loop (by kernel_rfl) (fun (s65 : Int × Int) => ([(1, .int .i64 x1), (4, .int .i64 0), (5, .int .i64 s65.1), (14, lsv (encI .u8) 1 x0), (15, .int .i64 (x0.length : Int)), (16, .int .i64 s65.2)], [])) hy62 [1, 4, 5, 14, 15, 16] (by kernel_rfl) (by kernel_rfl) (fun s65 x81 hs80 => ?_)
   refine kSR ?_
   refine kC 1 [1,4,5,14,15,16,17] ?_
   refine kEN ?_
   refine kS ?_
   refine J.caseB 17 (b := (decide (s65.2 < (x0.length : Int)))) (by kernel_rfl) (fun hb82 => ?_) (fun hb82 => ?_)
   ·have h83 := condT hb82 hs80
    refine kT ?_
    refine kK ?_
    refine PJ.next ?_
    refine kS ?_
    refine K.block 1 (by kernel_rfl) ?_
    refine kSR ?_
    obtain ⟨hm, h85⟩ := asrt h83
    refine RJ.rel (d := (some 18)) (ef := ⟨.ep (((x0.flatMap (encI .u8)).drop ((s65.2 : Int).toNat * 1)).take 1), [], []⟩) (ef' := ⟨.ep ((encI .u8) (nth x0 s65.2)), [], []⟩) (c := inR s65.2 x0.length) (tr2 := []) (H2 := []) (by kernel_rfl) hm (fun hc => N.idx (encI_len .u8) hc) (by kernel_rfl) ?_
    refine kC 2 [1,4,5,7,14,15,16] ?_
    refine kEN ?_
    refine kR ?_
    refine kC 6 [1,4,5,14,15,16,24,25] ?_
    obtain ⟨hm, h86⟩ := asrt h85
    refine RJ.rel (d := (some 26)) (ef := ⟨.int .i64 (Int.tmod ((IntKind.wrap .i64 ((IntKind.wrap .i64 (s65.1 * 10)) + (IntKind.wrap .i64 (nth x0 s65.2))))) x1), [], []⟩) (ef' := ⟨.int .i64 (Int.tmod ((IntKind.wrap .i64 ((IntKind.wrap .i64 (s65.1 * 10)) + (IntKind.wrap .i64 (nth x0 s65.2))))) x1), [], []⟩) (c := nz x1) (tr2 := []) (H2 := []) (by kernel_rfl) hm (fun hc => rfl) (by kernel_rfl) ?_
    refine RJ.seg 1 [1, 4, 5, 14, 15, 16] (L2 := [(1, .int .i64 x1), (4, .int .i64 0), (5, .int .i64 ((Int.tmod ((IntKind.wrap .i64 ((IntKind.wrap .i64 (s65.1 * 10)) + (IntKind.wrap .i64 (nth x0 s65.2))))) x1))), (14, lsv (encI .u8) 1 x0), (15, .int .i64 (x0.length : Int)), (16, .int .i64 s65.2)]) (H2 := []) (by kernel_rfl) ?_
    refine kE ?_
    refine PJ.blockNormal ?_
    refine PJ.next ?_
    refine kR ?_
    refine kC 2 [1,4,5,14,15,16] ?_
    refine kE ?_
    obtain rfl := oi h86
    exact PJ.loopNext [1, 4, 5, 14, 15, 16] (by kernel_rfl) (by kernel_rfl)
   ·have h84 := condF hb82 hs80
    refine kF ?_
    refine K.exit 0 (by kernel_rfl) ?_
    refine PJ.passExit ?_
    obtain rfl := oi h84
    refine PJ.loopOut (fun e => nomatch e) (fun he88 => ?_)
    have h87 := congrArg some he88
    refine PJ.blockOut ?_
    obtain rfl := oi h87
    exact kN [4, 5]
  ·refine kSR ?_
   refine kC 2 [4] ?_
   refine kEN ?_
   refine kX ?_
   obtain rfl := oi h64
   exact kZ hFn hFH hFD
def rule_holding_s0 (x0 : List Int) (x1 : Int) : Option (Unit ⊕ Int) :=
 (bif (decide (x1 = 0)) then (some (.inl ())) else (Option.bind (oper_Mod x0 x1) fun y4 => (some (.inr y4))))
theorem rule_holding_s0_ok0 {x0 : List Int} {x1 : Int} {r : Unit} (h : rule_holding_s0 x0 x1 = some (.inl r)) : SC Tryz.prog 37 [lsv (encI .u8) 1 x0, .int .i64 x1] [] (.fn (.func 52) [] [.ptr 0 0]) [.box [lsv (encI .u8) 1 x0]] := by
 refine kFn (fn := Tryz.f37) (fun F hFn hFH hFD => ?_)
 unfold rule_holding_s0 at h
 refine kSR ?_
 refine kC 2 [1,2] ?_
 refine kEN ?_
 refine kS ?_
 refine kSR ?_
 refine kC 2 [1,2,7] ?_
 refine kEN ?_
 refine J.caseB 7 (b := (decide (x1 = 0))) (by kernel_rfl) (fun hb1 => ?_) (fun hb1 => ?_)
 ·have h2 := condT hb1 h
  refine kT ?_
  refine kSR ?_
  refine kC 2 [1,2,4] ?_
  refine kEN ?_
  refine kX ?_
  refine PJ.passRet ?_
  obtain rfl := Sum.inl.inj (Option.some.inj h2)
  exact K.retV (H0 := []) [0] (.inr rfl) hFn hFH hFD (by kernel_rfl) (v1 := .fn (.func 52) [] [.ptr 0 0]) (by kernel_rfl) (by kernel_rfl) (by kernel_rfl) (by decide) (by kernel_rfl) (by kernel_rfl) (by kernel_rfl) (by kernel_rfl) (by kernel_rfl)
 ·have h3 := condF hb1 h
  refine kF ?_
  refine kK ?_
  refine PJ.next ?_
  refine kSR ?_
  refine kC 2 [9,10] ?_
  obtain ⟨y4, hy5, h6⟩ := bindS h3
  refine RJ.call0 (d := (some 11)) (f := 54) (args := [lsv (encI .u8) 1 x0, .int .i64 x1]) (v := .int .i64 y4) (tr2 := []) (by kernel_rfl) (by kernel_rfl) (.cons (Le.refl _) (.cons (Le.refl _) .nil)) (oper_Mod_ok hy5) (by kernel_rfl) ?_
  refine RJ.seg 2 [5] (L2 := [(5, .ptr 1 0)]) (H2 := [.box [lsv (encI .u8) 1 x0], .box [.int .i64 y4]]) (by kernel_rfl) ?_
  refine kEN ?_
  refine kSR ?_
  refine kC 2 [4] ?_
  refine kEN ?_
  refine kX ?_
  cases h6
theorem rule_holding_s0_ok1 {x0 : List Int} {x1 : Int} {r : Int} (h : rule_holding_s0 x0 x1 = some (.inr r)) : SC Tryz.prog 37 [lsv (encI .u8) 1 x0, .int .i64 x1] [] (.fn (.func 55) [] [.ptr 0 0]) [.box [.int .i64 r]] := by
 refine kFn (fn := Tryz.f37) (fun F hFn hFH hFD => ?_)
 unfold rule_holding_s0 at h
 refine kSR ?_
 refine kC 2 [1,2] ?_
 refine kEN ?_
 refine kS ?_
 refine kSR ?_
 refine kC 2 [1,2,7] ?_
 refine kEN ?_
 refine J.caseB 7 (b := (decide (x1 = 0))) (by kernel_rfl) (fun hb1 => ?_) (fun hb1 => ?_)
 ·have h2 := condT hb1 h
  refine kT ?_
  refine kSR ?_
  refine kC 2 [1,2,4] ?_
  refine kEN ?_
  refine kX ?_
  refine PJ.passRet ?_
  cases h2
 ·have h3 := condF hb1 h
  refine kF ?_
  refine kK ?_
  refine PJ.next ?_
  refine kSR ?_
  refine kC 2 [9,10] ?_
  obtain ⟨y4, hy5, h6⟩ := bindS h3
  refine RJ.call0 (d := (some 11)) (f := 54) (args := [lsv (encI .u8) 1 x0, .int .i64 x1]) (v := .int .i64 y4) (tr2 := []) (by kernel_rfl) (by kernel_rfl) (.cons (Le.refl _) (.cons (Le.refl _) .nil)) (oper_Mod_ok hy5) (by kernel_rfl) ?_
  refine RJ.seg 2 [5] (L2 := [(5, .ptr 1 0)]) (H2 := [.box [lsv (encI .u8) 1 x0], .box [.int .i64 y4]]) (by kernel_rfl) ?_
  refine kEN ?_
  refine kSR ?_
  refine kC 2 [4] ?_
  refine kEN ?_
  refine kX ?_
  obtain rfl := Sum.inr.inj (Option.some.inj h6)
  exact K.retV (H0 := []) [1] (.inr rfl) hFn hFH hFD (by kernel_rfl) (v1 := .fn (.func 55) [] [.ptr 1 0]) (by kernel_rfl) (by kernel_rfl) (by kernel_rfl) (by decide) (by kernel_rfl) (by kernel_rfl) (by kernel_rfl) (by kernel_rfl) (by kernel_rfl)
def oper_In (x0 : List Int) (x1 : Int) (x2 : Int) : Option (Bool) :=
 (Option.bind (oper_strip x0) fun y1 => (Option.bind (Option.bind (bif (decide ((y1.length : Int) > 19)) then (some true) else (some (decide (x2 < 0)))) fun (s27 : Bool) => (bif s27 then (some (.inr false)) else (some (.inl ())))) (joinX fun (s19 : Unit) => (Option.bind (loopN (fun (s65 : Int × Int) => (bif (decide (s65.2 < (y1.length : Int))) then (bif inR s65.2 y1.length then (some (.inl ((IntKind.wrap .u64 ((IntKind.wrap .u64 (s65.1 * 10)) + (IntKind.wrap .u64 (nth y1 s65.2)))), (IntKind.wrap .i64 (s65.2 + 1))))) else none) else (some (.inr s65.1)))) big (0, 0)) fun (s60 : Int) => (Option.bind (bif (decide (s60 ≤ (IntKind.wrap .u64 x2))) then (some ((decide (s60 ≥ (IntKind.wrap .u64 (maxI x1 0)))))) else (some false)) fun (s89 : Bool) => (some s89))))))
theorem oper_In_ok {x0 : List Int} {x1 : Int} {x2 : Int} {r : Bool} (h : oper_In x0 x1 x2 = some r) : SC Tryz.prog 53 [lsv (encI .u8) 1 x0, .int .i64 x1, .int .i64 x2] [] (.bool r) [] := by
 refine kFn (fn := Tryz.f53) (fun F hFn hFH hFD => ?_)
 unfold oper_In at h
 refine kSR ?_
 refine kC 1 [0,1,2,6] ?_
 refine kEN ?_
 refine kSR ?_
 refine kC 1 [0,1,2,6,10] ?_
 obtain ⟨y1, hy2, h3⟩ := bindS h
 refine RJ.call0 (d := (some 11)) (f := 74) (args := [lsv (encI .u8) 1 x0]) (v := lsv (encI .u8) 1 y1) (tr2 := []) (by kernel_rfl) (by kernel_rfl) (.cons (Le.refl _) .nil) (oper_strip_ok hy2) (by kernel_rfl) ?_
 refine kC 1 [0,1,2,6] ?_
 refine kEN ?_
 obtain ⟨y20, hy21, h22⟩ := bindS h3
 refine K.cutX (by kernel_rfl) (fun (s19 : Unit) => ([(0, lsv (encI .u8) 1 y1), (1, .int .i64 x1), (2, .int .i64 x2), (6, .bool false)], [])) y20 ?_ (fun s19 hs => ?_)
 ·obtain ⟨s27, hy29, h31⟩ := bindS hy21
  refine K.cutN (by kernel_rfl) (fun (s27 : Bool) => ([(0, lsv (encI .u8) 1 y1), (1, .int .i64 x1), (2, .int .i64 x2), (6, .bool false), (18, .bool s27)], [])) s27 ?_ ?_
  ·refine kR ?_
   refine RJ.seg 4 [0, 1, 2, 6, 15] (L2 := [(0, lsv (encI .u8) 1 y1), (1, .int .i64 x1), (2, .int .i64 x2), (6, .bool false), (15, .bool ((decide ((y1.length : Int) > 19))))]) (H2 := []) (by kernel_rfl) ?_
   refine RJ.caseB 15 (b := (decide ((y1.length : Int) > 19))) (by kernel_rfl) (fun hb32 => ?_) (fun hb32 => ?_)
   ·have h33 := condT hb32 hy29
    refine kC 3 [0,1,2,6,18] ?_
    refine kE ?_
    obtain rfl := oi h33
    exact kN [0, 1, 2, 6, 18]
   ·have h34 := condF hb32 hy29
    refine kC 3 [0,1,2,6,18] ?_
    refine kE ?_
    obtain rfl := oi h34
    exact kN [0, 1, 2, 6, 18]
  ·refine J.caseB 18 (b := s27) (by kernel_rfl) (fun hb35 => ?_) (fun hb35 => ?_)
   ·have h36 := condT hb35 h31
    refine kT ?_
    refine kSR ?_
    refine kC 1 [0,1,2,6] ?_
    refine kEN ?_
    refine kX ?_
    obtain rfl := oi h36
    have h38 := joinX_inr h22
    refine PJ.cutXr (fun e => nomatch e) ?_
    obtain rfl := oi h38
    exact kZ hFn hFH hFD
   ·have h37 := condF hb35 h31
    refine kF ?_
    refine kK ?_
    obtain rfl := oi h37
    exact PJ.cutXl [0, 1, 2, 6] (by kernel_rfl) (by kernel_rfl)
 ·subst hs
  have h23 := joinX_inl h22
  refine kSR ?_
  refine kC 1 [0,1,2,6,7] ?_
  refine kEN ?_
  obtain ⟨s60, hy62, h64⟩ := bindS h23
  refine K.cutN (by kernel_rfl) (fun (s60 : Int) => ([(1, .int .i64 x1), (2, .int .i64 x2), (6, .bool false), (7, .int .u64 s60)], [])) s60 ?_ ?_
  ·refine kSR ?_
   refine kC 3 [1,2,6,7,19,20,21] ?_
   refine kEN ?_
   refine K.block 0 (by kernel_rfl) ?_
   refine K.loop (by kernel_rfl) (fun (s65 : Int × Int) => ([(1, .int .i64 x1), (2, .int .i64 x2), (6, .bool false), (7, .int .u64 s65.1), (19, lsv (encI .u8) 1 y1), (20, .int .i64 (y1.length : Int)), (21, .int .i64 s65.2)], [])) hy62 [1, 2, 6, 7, 19, 20, 21] (by kernel_rfl) (by kernel_rfl) (fun s65 x79 hs78 => ?_)
   refine kSR ?_
   refine kC 1 [1,2,6,7,19,20,21,22] ?_
   refine kEN ?_
   refine kS ?_
   refine J.caseB 22 (b := (decide (s65.2 < (y1.length : Int)))) (by kernel_rfl) (fun hb80 => ?_) (fun hb80 => ?_)
   ·have h81 := condT hb80 hs78
    refine kT ?_
    refine kK ?_
    refine PJ.next ?_
    refine kS ?_
    refine K.block 1 (by kernel_rfl) ?_
    refine kSR ?_
    obtain ⟨hm, h83⟩ := asrt h81
    refine RJ.rel (d := (some 23)) (ef := ⟨.ep (((y1.flatMap (encI .u8)).drop ((s65.2 : Int).toNat * 1)).take 1), [], []⟩) (ef' := ⟨.ep ((encI .u8) (nth y1 s65.2)), [], []⟩) (c := inR s65.2 y1.length) (tr2 := []) (H2 := []) (by kernel_rfl) hm (fun hc => N.idx (encI_len .u8) hc) (by kernel_rfl) ?_
    refine kC 2 [1,2,6,7,9,19,20,21] ?_
    refine kEN ?_
    refine kR ?_
    refine kC 6 [1,2,6,7,19,20,21] ?_
    refine kE ?_
    refine PJ.blockNormal ?_
    refine PJ.next ?_
    refine kR ?_
    refine RJ.seg 2 [1, 2, 6, 7, 19, 20, 21] (L2 := [(1, .int .i64 x1), (2, .int .i64 x2), (6, .bool false), (7, .int .u64 ((IntKind.wrap .u64 ((IntKind.wrap .u64 (s65.1 * 10)) + (IntKind.wrap .u64 (nth y1 s65.2)))))), (19, lsv (encI .u8) 1 y1), (20, .int .i64 (y1.length : Int)), (21, .int .i64 (IntKind.wrap .i64 (s65.2 + 1)))]) (H2 := []) (by kernel_rfl) ?_
    refine kE ?_
    obtain rfl := oi h83
    exact PJ.loopNext [1, 2, 6, 7, 19, 20, 21] (by kernel_rfl) (by kernel_rfl)
   ·have h82 := condF hb80 hs78
    refine kF ?_
    refine K.exit 0 (by kernel_rfl) ?_
    refine PJ.passExit ?_
    obtain rfl := oi h82
    refine PJ.loopOut (fun e => nomatch e) (fun he85 => ?_)
    have h84 := congrArg some he85
    refine PJ.blockOut ?_
    obtain rfl := oi h84
    exact kN [1, 2, 6, 7]
  ·obtain ⟨s89, hy91, h93⟩ := bindS h64
   refine K.cutN (by kernel_rfl) (fun (s89 : Bool) => ([(6, .bool s89)], [])) s89 ?_ ?_
   ·refine kR ?_
    refine kC 5 [1,6,7,35] ?_
    refine RJ.caseB 35 (b := (decide (s60 ≤ (IntKind.wrap .u64 x2)))) (by kernel_rfl) (fun hb94 => ?_) (fun hb94 => ?_)
    ·have h95 := condT hb94 hy91
     refine kC 7 [6] ?_
     refine kE ?_
     obtain rfl := oi h95
     exact kN [6]
    ·have h96 := condF hb94 hy91
     refine kC 7 [6] ?_
     refine kE ?_
     obtain rfl := oi h96
     exact kN [6]
   ·refine kX ?_
    obtain rfl := oi h93
    exact kZ hFn hFH hFD
def rule_holding_1_s0 (x0 : St41) (x1 : List Int) : Option (Bool) :=
 (Option.bind (oper_In x1 x0.a0_ x0.a1_) fun y1 => (some y1))
theorem rule_holding_1_s0_ok {x0 : St41} {x1 : List Int} {r : Bool} (h : rule_holding_1_s0 x0 x1 = some r) : SC Tryz.prog 52 [.agg (encSt41 x0), .ptr 0 0] [.box [lsv (encI .u8) 1 x1]] (.bool r) [.box [lsv (encI .u8) 1 x1]] := by
 refine kFn (fn := Tryz.f52) (fun F hFn hFH hFD => ?_)
 unfold rule_holding_1_s0 at h
 refine kSR ?_
 refine kC 2 [1,2,3] ?_
 refine kEN ?_
 refine kSR ?_
 refine kC 5 [3,4,6,8] ?_
 obtain ⟨y1, hy2, h3⟩ := bindS h
 refine RJ.call0 (d := (some 9)) (f := 53) (args := [lsv (encI .u8) 1 x1, .int .i64 x0.a0_, .int .i64 x0.a1_]) (v := .bool y1) (tr2 := []) (by kernel_rfl) (by kernel_rfl) (.cons (Le.refl _) (.cons (Le.refl _) (.cons (Le.refl _) .nil))) (oper_In_ok hy2) (by kernel_rfl) ?_
 refine kC 1 [3] ?_
 refine kEN ?_
 refine kX ?_
 obtain rfl := oi h3
 exact K.retV (H0 := [.box [lsv (encI .u8) 1 x1]]) [0] (.inr rfl) hFn hFH hFD (by kernel_rfl) (v1 := .bool y1) (by kernel_rfl) (by kernel_rfl) (by kernel_rfl) (by decide) (by kernel_rfl) (by kernel_rfl) (by kernel_rfl) (by kernel_rfl) (by kernel_rfl)
def slices_IndexFunc_s0 (x0 : List St41) (x1 : List Int) : Option (Int) :=
 (Option.bind (loopN (fun (s54 : Int) => (bif (decide (s54 < (x0.length : Int))) then (bif inR s54 x0.length then (Option.bind (rule_holding_1_s0 (nth x0 s54) x1) fun y91 => (bif y91 then (some (.inr (.inr s54))) else (some (.inl (IntKind.wrap .i64 (s54 + 1)))))) else none) else (some (.inr (.inl ()))))) big 0) (joinX fun (s49 : Unit) => (some (-1))))
theorem slices_IndexFunc_s0_ok {x0 : List St41} {x1 : List Int} {r : Int} (h : slices_IndexFunc_s0 x0 x1 = some r) : SC Tryz.prog 51 [lsv encSt41 2 x0, .fn (.func 52) [] [.ptr 0 0]] [.box [lsv (encI .u8) 1 x1]] (.int .i64 r) [.box [lsv (encI .u8) 1 x1]] := by
 refine kFn (fn := Tryz.f51) (fun F hFn hFH hFD => ?_)
 unfold slices_IndexFunc_s0 at h
 refine kSR ?_
 refine kC 1 [0,1,4] ?_
 refine kEN ?_
 obtain ⟨y50, hy51, h52⟩ := bindS h
 refine K.cutX (by kernel_rfl) (fun (s49 : Unit) => ([(4, .int .i64 0)], [.box [lsv (encI .u8) 1 x1]])) y50 ?_ (fun s49 hs => ?_)
 ·refine kSR ?_
  refine kC 3 [0,1,4,7,8] ?_
  refine kEN ?_
  refine K.block 0 (by kernel_rfl) ?_
  refine K.loop (by kernel_rfl) (fun (s54 : Int) => ([(0, lsv encSt41 2 x0), (1, .fn (.func 52) [] [.ptr 0 0]), (4, .int .i64 0), (7, .int .i64 (x0.length : Int)), (8, .int .i64 s54)], [.box [lsv (encI .u8) 1 x1]])) hy51 [0, 1, 4, 7, 8] (by kernel_rfl) (by kernel_rfl) (fun s54 x86 hs85 => ?_)
  refine kSR ?_
  refine kC 1 [0,1,4,7,8,9] ?_
  refine kEN ?_
  refine kS ?_
  refine J.caseB 9 (b := (decide (s54 < (x0.length : Int)))) (by kernel_rfl) (fun hb87 => ?_) (fun hb87 => ?_)
  ·have h88 := condT hb87 hs85
   refine kT ?_
   refine kK ?_
   refine PJ.next ?_
   refine kS ?_
   refine K.block 1 (by kernel_rfl) ?_
   refine kSR ?_
   refine kC 2 [0,1,4,5,7,8] ?_
   refine kEN ?_
   refine kSR ?_
   refine kC 3 [0,1,4,5,7,8,11,12,13] ?_
   obtain ⟨hm, h90⟩ := asrt h88
   refine RJ.rel (d := (some 14)) (ef := ⟨.ep (((x0.flatMap encSt41).drop ((s54 : Int).toNat * 2)).take 2), [], []⟩) (ef' := ⟨.ep (encSt41 (nth x0 s54)), [], []⟩) (c := inR s54 x0.length) (tr2 := []) (H2 := [.box [lsv (encI .u8) 1 x1]]) (by kernel_rfl) hm (fun hc => N.idx encSt41_len hc) (by kernel_rfl) ?_
   refine RJ.seg 1 [0, 1, 4, 5, 7, 8, 11, 15] (L2 := [(0, lsv encSt41 2 x0), (1, .fn (.func 52) [] [.ptr 0 0]), (4, .int .i64 0), (5, .int .i64 s54), (7, .int .i64 (x0.length : Int)), (8, .int .i64 s54), (11, .fn (.func 52) [] [.ptr 0 0]), (15, .agg [.int .i64 ((nth x0 s54).a0_), .int .i64 ((nth x0 s54).a1_)])]) (H2 := [.box [lsv (encI .u8) 1 x1]]) (by kernel_rfl) ?_
   obtain ⟨y91, hy92, h93⟩ := bindS h90
   refine RJ.callG (d := (some 16)) (f := 52) (args := [.agg [.int .i64 ((nth x0 s54).a0_), .int .i64 ((nth x0 s54).a1_)], .ptr 0 0]) (args0 := [.agg [.int .i64 ((nth x0 s54).a0_), .int .i64 ((nth x0 s54).a1_)], .ptr 0 0]) (v0 := .bool y91) (v := .bool y91) (tr2 := []) (H0 := [.box [lsv (encI .u8) 1 x1]]) (H0' := [.box [lsv (encI .u8) 1 x1]]) (H2 := [.box [lsv (encI .u8) 1 x1]]) [0] (by kernel_rfl) (by kernel_rfl) (by kernel_rfl) (by kernel_rfl) (by decide) (by kernel_rfl) (by kernel_rfl) (by kernel_rfl) (.cons (Le.refl _) (.cons (Le.refl _) .nil)) (rule_holding_1_s0_ok hy92) (by kernel_rfl) (by kernel_rfl) (by kernel_rfl) ?_
   refine kEN ?_
   refine J.caseB 16 (b := y91) (by kernel_rfl) (fun hb94 => ?_) (fun hb94 => ?_)
   ·have h95 := condT hb94 h93
    refine kT ?_
    refine kSR ?_
    refine kC 2 [0,1,4,7,8] ?_
    refine kEN ?_
    refine kX ?_
    refine PJ.blockRet ?_
    refine PJ.passRet ?_
    obtain rfl := oi h95
    refine PJ.loopOut (fun e => nomatch e) (fun he99 => ?_)
    have h97 := congrArg some he99
    refine PJ.blockRet ?_
    obtain rfl := oi h97
    have h98 := joinX_inr h52
    refine PJ.cutXr (fun e => nomatch e) ?_
    obtain rfl := oi h98
    exact K.retV (H0 := [.box [lsv (encI .u8) 1 x1]]) [0] (.inr rfl) hFn hFH hFD (by kernel_rfl) (v1 := .int .i64 s54) (by kernel_rfl) (by kernel_rfl) (by kernel_rfl) (by decide) (by kernel_rfl) (by kernel_rfl) (by kernel_rfl) (by kernel_rfl) (by kernel_rfl)
   ·have h96 := condF hb94 h93
    refine kF ?_
    refine kK ?_
    refine PJ.blockNormal ?_
    refine PJ.next ?_
    refine kR ?_
    refine kC 2 [0,1,4,7,8] ?_
    refine kE ?_
    obtain rfl := oi h96
    exact PJ.loopNext [0, 1, 4, 7, 8] (by kernel_rfl) (by kernel_rfl)
  ·have h89 := condF hb87 hs85
   refine kF ?_
   refine K.exit 0 (by kernel_rfl) ?_
   refine PJ.passExit ?_
   obtain rfl := oi h89
   refine PJ.loopOut (fun e => nomatch e) (fun he101 => ?_)
   have h100 := congrArg some he101
   refine PJ.blockOut ?_
   obtain rfl := oi h100
   exact PJ.cutXl [4] (by kernel_rfl) (by kernel_rfl)
 ·subst hs
  have h53 := joinX_inl h52
  refine kSR ?_
  refine kC 1 [4] ?_
  refine kEN ?_
  refine kX ?_
  obtain rfl := oi h53
  exact K.retV (H0 := [.box [lsv (encI .u8) 1 x1]]) [0] (.inr rfl) hFn hFH hFD (by kernel_rfl) (v1 := .int .i64 (-1)) (by kernel_rfl) (by kernel_rfl) (by kernel_rfl) (by decide) (by kernel_rfl) (by kernel_rfl) (by kernel_rfl) (by kernel_rfl) (by kernel_rfl)
def slices_ContainsFunc_s0 (x0 : List St41) (x1 : List Int) : Option (Bool) :=
 (Option.bind (slices_IndexFunc_s0 x0 x1) fun y1 => (some (decide (y1 ≥ 0))))
theorem slices_ContainsFunc_s0_ok {x0 : List St41} {x1 : List Int} {r : Bool} (h : slices_ContainsFunc_s0 x0 x1 = some r) : SC Tryz.prog 36 [lsv encSt41 2 x0, .fn (.func 52) [] [.ptr 0 0]] [.box [lsv (encI .u8) 1 x1]] (.bool r) [.box [lsv (encI .u8) 1 x1]] := by
 refine kFn (fn := Tryz.f36) (fun F hFn hFH hFD => ?_)
 unfold slices_ContainsFunc_s0 at h
 refine kSR ?_
 refine kC 1 [0,1,4] ?_
 refine kEN ?_
 refine kSR ?_
 refine kC 2 [4,5,6] ?_
 obtain ⟨y1, hy2, h3⟩ := bindS h
 refine RJ.callG (d := (some 7)) (f := 51) (args := [lsv encSt41 2 x0, .fn (.func 52) [] [.ptr 0 0]]) (args0 := [lsv encSt41 2 x0, .fn (.func 52) [] [.ptr 0 0]]) (v0 := .int .i64 y1) (v := .int .i64 y1) (tr2 := []) (H0 := [.box [lsv (encI .u8) 1 x1]]) (H0' := [.box [lsv (encI .u8) 1 x1]]) (H2 := [.box [lsv (encI .u8) 1 x1]]) [0] (by kernel_rfl) (by kernel_rfl) (by kernel_rfl) (by kernel_rfl) (by decide) (by kernel_rfl) (by kernel_rfl) (by kernel_rfl) (.cons (Le.refl _) (.cons (Le.refl _) .nil)) (slices_IndexFunc_s0_ok hy2) (by kernel_rfl) (by kernel_rfl) (by kernel_rfl) ?_
 refine kC 2 [4] ?_
 refine kEN ?_
 refine kX ?_
 obtain rfl := oi h3
 exact K.retV (H0 := [.box [lsv (encI .u8) 1 x1]]) [0] (.inr rfl) hFn hFH hFD (by kernel_rfl) (v1 := .bool (decide (y1 ≥ 0))) (by kernel_rfl) (by kernel_rfl) (by kernel_rfl) (by decide) (by kernel_rfl) (by kernel_rfl) (by kernel_rfl) (by kernel_rfl) (by kernel_rfl)
def rule_holding_2_s0 (x0 : St41) (x1 : Int) : Option (Bool) :=
 (Option.bind (bif (decide (x0.a0_ ≤ x1)) then (some (decide (x1 ≤ x0.a1_))) else (some false)) fun (s4 : Bool) => (some s4))
theorem rule_holding_2_s0_ok {x0 : St41} {x1 : Int} {r : Bool} (h : rule_holding_2_s0 x0 x1 = some r) : SC Tryz.prog 55 [.agg (encSt41 x0), .ptr 0 0] [.box [.int .i64 x1]] (.bool r) [.box [.int .i64 x1]] := by
 refine kFn (fn := Tryz.f55) (fun F hFn hFH hFD => ?_)
 unfold rule_holding_2_s0 at h
 refine kSR ?_
 refine kC 2 [1,2,3] ?_
 refine kEN ?_
 obtain ⟨s4, hy6, h8⟩ := bindS h
 refine K.cutN (by kernel_rfl) (fun (s4 : Bool) => ([(3, .bool s4)], [.box [.int .i64 x1]])) s4 ?_ ?_
 ·refine kR ?_
  refine kC 5 [1,2,3,8] ?_
  refine RJ.caseB 8 (b := (decide (x0.a0_ ≤ x1))) (by kernel_rfl) (fun hb9 => ?_) (fun hb9 => ?_)
  ·have h10 := condT hb9 hy6
   refine kC 6 [3] ?_
   refine kE ?_
   obtain rfl := oi h10
   refine PJ.wk (Wk.sel (L2 := [(3, .bool (decide (x1 ≤ x0.a1_)))]) (H2 := [.box [.int .i64 x1]]) 1 (by rw [hFH]; rfl) hFD [0] (by kernel_rfl) (by kernel_rfl) (by decide) (by kernel_rfl) (by kernel_rfl) (by kernel_rfl) (by kernel_rfl)) ?_
   exact kN [3]
  ·have h11 := condF hb9 hy6
   refine kC 6 [3] ?_
   refine kE ?_
   obtain rfl := oi h11
   refine PJ.wk (Wk.sel (L2 := [(3, .bool false)]) (H2 := [.box [.int .i64 x1]]) 1 (by rw [hFH]; rfl) hFD [0] (by kernel_rfl) (by kernel_rfl) (by decide) (by kernel_rfl) (by kernel_rfl) (by kernel_rfl) (by kernel_rfl)) ?_
   exact kN [3]
 ·refine kX ?_
  obtain rfl := oi h8
  exact K.retV (H0 := [.box [.int .i64 x1]]) [0] (.inr rfl) hFn hFH hFD (by kernel_rfl) (v1 := .bool s4) (by kernel_rfl) (by kernel_rfl) (by kernel_rfl) (by decide) (by kernel_rfl) (by kernel_rfl) (by kernel_rfl) (by kernel_rfl) (by kernel_rfl)
def slices_IndexFunc_s1 (x0 : List St41) (x1 : Int) : Option (Int) :=
 (Option.bind (loopN (fun (s54 : Int) => (bif (decide (s54 < (x0.length : Int))) then (bif inR s54 x0.length then (Option.bind (rule_holding_2_s0 (nth x0 s54) x1) fun y91 => (bif y91 then (some (.inr (.inr s54))) else (some (.inl (IntKind.wrap .i64 (s54 + 1)))))) else none) else (some (.inr (.inl ()))))) big 0) (joinX fun (s49 : Unit) => (some (-1))))
theorem slices_IndexFunc_s1_ok {x0 : List St41} {x1 : Int} {r : Int} (h : slices_IndexFunc_s1 x0 x1 = some r) : SC Tryz.prog 51 [lsv encSt41 2 x0, .fn (.func 55) [] [.ptr 0 0]] [.box [.int .i64 x1]] (.int .i64 r) [.box [.int .i64 x1]] := by
 refine kFn (fn := Tryz.f51) (fun F hFn hFH hFD => ?_)
 unfold slices_IndexFunc_s1 at h
 refine kSR ?_
 refine kC 1 [0,1,4] ?_
 refine kEN ?_
 obtain ⟨y50, hy51, h52⟩ := bindS h
 refine K.cutX (by kernel_rfl) (fun (s49 : Unit) => ([(4, .int .i64 0)], [.box [.int .i64 x1]])) y50 ?_ (fun s49 hs => ?_)
 ·refine kSR ?_
  refine kC 3 [0,1,4,7,8] ?_
  refine kEN ?_
  refine K.block 0 (by kernel_rfl) ?_
  refine K.loop (by kernel_rfl) (fun (s54 : Int) => ([(0, lsv encSt41 2 x0), (1, .fn (.func 55) [] [.ptr 0 0]), (4, .int .i64 0), (7, .int .i64 (x0.length : Int)), (8, .int .i64 s54)], [.box [.int .i64 x1]])) hy51 [0, 1, 4, 7, 8] (by kernel_rfl) (by kernel_rfl) (fun s54 x86 hs85 => ?_)
  refine kSR ?_
  refine kC 1 [0,1,4,7,8,9] ?_
  refine kEN ?_
  refine kS ?_
  refine J.caseB 9 (b := (decide (s54 < (x0.length : Int)))) (by kernel_rfl) (fun hb87 => ?_) (fun hb87 => ?_)
  ·have h88 := condT hb87 hs85
   refine kT ?_
   refine kK ?_
   refine PJ.next ?_
   refine kS ?_
   refine K.block 1 (by kernel_rfl) ?_
   refine kSR ?_
   refine kC 2 [0,1,4,5,7,8] ?_
   refine kEN ?_
   refine kSR ?_
   refine kC 3 [0,1,4,5,7,8,11,12,13] ?_
   obtain ⟨hm, h90⟩ := asrt h88
   refine RJ.rel (d := (some 14)) (ef := ⟨.ep (((x0.flatMap encSt41).drop ((s54 : Int).toNat * 2)).take 2), [], []⟩) (ef' := ⟨.ep (encSt41 (nth x0 s54)), [], []⟩) (c := inR s54 x0.length) (tr2 := []) (H2 := [.box [.int .i64 x1]]) (by kernel_rfl) hm (fun hc => N.idx encSt41_len hc) (by kernel_rfl) ?_
   refine RJ.seg 1 [0, 1, 4, 5, 7, 8, 11, 15] (L2 := [(0, lsv encSt41 2 x0), (1, .fn (.func 55) [] [.ptr 0 0]), (4, .int .i64 0), (5, .int .i64 s54), (7, .int .i64 (x0.length : Int)), (8, .int .i64 s54), (11, .fn (.func 55) [] [.ptr 0 0]), (15, .agg [.int .i64 ((nth x0 s54).a0_), .int .i64 ((nth x0 s54).a1_)])]) (H2 := [.box [.int .i64 x1]]) (by kernel_rfl) ?_
   obtain ⟨y91, hy92, h93⟩ := bindS h90
   refine RJ.callG (d := (some 16)) (f := 55) (args := [.agg [.int .i64 ((nth x0 s54).a0_), .int .i64 ((nth x0 s54).a1_)], .ptr 0 0]) (args0 := [.agg [.int .i64 ((nth x0 s54).a0_), .int .i64 ((nth x0 s54).a1_)], .ptr 0 0]) (v0 := .bool y91) (v := .bool y91) (tr2 := []) (H0 := [.box [.int .i64 x1]]) (H0' := [.box [.int .i64 x1]]) (H2 := [.box [.int .i64 x1]]) [0] (by kernel_rfl) (by kernel_rfl) (by kernel_rfl) (by kernel_rfl) (by decide) (by kernel_rfl) (by kernel_rfl) (by kernel_rfl) (.cons (Le.refl _) (.cons (Le.refl _) .nil)) (rule_holding_2_s0_ok hy92) (by kernel_rfl) (by kernel_rfl) (by kernel_rfl) ?_
   refine kEN ?_
   refine J.caseB 16 (b := y91) (by kernel_rfl) (fun hb94 => ?_) (fun hb94 => ?_)
   ·have h95 := condT hb94 h93
    refine kT ?_
    refine kSR ?_
    refine kC 2 [0,1,4,7,8] ?_
    refine kEN ?_
    refine kX ?_
    refine PJ.blockRet ?_
    refine PJ.passRet ?_
    obtain rfl := oi h95
    refine PJ.loopOut (fun e => nomatch e) (fun he99 => ?_)
    have h97 := congrArg some he99
    refine PJ.blockRet ?_
    obtain rfl := oi h97
    have h98 := joinX_inr h52
    refine PJ.cutXr (fun e => nomatch e) ?_
    obtain rfl := oi h98
    exact K.retV (H0 := [.box [.int .i64 x1]]) [0] (.inr rfl) hFn hFH hFD (by kernel_rfl) (v1 := .int .i64 s54) (by kernel_rfl) (by kernel_rfl) (by kernel_rfl) (by decide) (by kernel_rfl) (by kernel_rfl) (by kernel_rfl) (by kernel_rfl) (by kernel_rfl)
   ·have h96 := condF hb94 h93
    refine kF ?_
    refine kK ?_
    refine PJ.blockNormal ?_
    refine PJ.next ?_
    refine kR ?_
    refine kC 2 [0,1,4,7,8] ?_
    refine kE ?_
    obtain rfl := oi h96
    exact PJ.loopNext [0, 1, 4, 7, 8] (by kernel_rfl) (by kernel_rfl)
  ·have h89 := condF hb87 hs85
   refine kF ?_
   refine K.exit 0 (by kernel_rfl) ?_
   refine PJ.passExit ?_
   obtain rfl := oi h89
   refine PJ.loopOut (fun e => nomatch e) (fun he101 => ?_)
   have h100 := congrArg some he101
   refine PJ.blockOut ?_
   obtain rfl := oi h100
   exact PJ.cutXl [4] (by kernel_rfl) (by kernel_rfl)
 ·subst hs
  have h53 := joinX_inl h52
  refine kSR ?_
  refine kC 1 [4] ?_
  refine kEN ?_
  refine kX ?_
  obtain rfl := oi h53
  exact K.retV (H0 := [.box [.int .i64 x1]]) [0] (.inr rfl) hFn hFH hFD (by kernel_rfl) (v1 := .int .i64 (-1)) (by kernel_rfl) (by kernel_rfl) (by kernel_rfl) (by decide) (by kernel_rfl) (by kernel_rfl) (by kernel_rfl) (by kernel_rfl) (by kernel_rfl)
def slices_ContainsFunc_s1 (x0 : List St41) (x1 : Int) : Option (Bool) :=
 (Option.bind (slices_IndexFunc_s1 x0 x1) fun y1 => (some (decide (y1 ≥ 0))))
theorem slices_ContainsFunc_s1_ok {x0 : List St41} {x1 : Int} {r : Bool} (h : slices_ContainsFunc_s1 x0 x1 = some r) : SC Tryz.prog 36 [lsv encSt41 2 x0, .fn (.func 55) [] [.ptr 0 0]] [.box [.int .i64 x1]] (.bool r) [.box [.int .i64 x1]] := by
 refine kFn (fn := Tryz.f36) (fun F hFn hFH hFD => ?_)
 unfold slices_ContainsFunc_s1 at h
 refine kSR ?_
 refine kC 1 [0,1,4] ?_
 refine kEN ?_
 refine kSR ?_
 refine kC 2 [4,5,6] ?_
 obtain ⟨y1, hy2, h3⟩ := bindS h
 refine RJ.callG (d := (some 7)) (f := 51) (args := [lsv encSt41 2 x0, .fn (.func 55) [] [.ptr 0 0]]) (args0 := [lsv encSt41 2 x0, .fn (.func 55) [] [.ptr 0 0]]) (v0 := .int .i64 y1) (v := .int .i64 y1) (tr2 := []) (H0 := [.box [.int .i64 x1]]) (H0' := [.box [.int .i64 x1]]) (H2 := [.box [.int .i64 x1]]) [0] (by kernel_rfl) (by kernel_rfl) (by kernel_rfl) (by kernel_rfl) (by decide) (by kernel_rfl) (by kernel_rfl) (by kernel_rfl) (.cons (Le.refl _) (.cons (Le.refl _) .nil)) (slices_IndexFunc_s1_ok hy2) (by kernel_rfl) (by kernel_rfl) (by kernel_rfl) ?_
 refine kC 2 [4] ?_
 refine kEN ?_
 refine kX ?_
 obtain rfl := oi h3
 exact K.retV (H0 := [.box [.int .i64 x1]]) [0] (.inr rfl) hFn hFH hFD (by kernel_rfl) (v1 := .bool (decide (y1 ≥ 0))) (by kernel_rfl) (by kernel_rfl) (by kernel_rfl) (by decide) (by kernel_rfl) (by kernel_rfl) (by kernel_rfl) (by kernel_rfl) (by kernel_rfl)
def rule_asks_1_s0 (x0 : St39) (x1 : List Int) (x2 : List Int) (x3 : Int) (x4 : Int) : Option (Bool) :=
 (Option.bind (oper_Operand (⟨x1, x2, x3, x4⟩ : St25) x0.Op_) fun y1 => (Option.bind (bif y1.2 then (Option.bind (rule_holding_s0 y1.1 x0.Mod_) fun y29 => (Sum.elim (fun y32 => (Option.bind (slices_ContainsFunc_s0 x0.R_ y1.1) fun y36 => (some y36))) (fun y33 => (Option.bind (slices_ContainsFunc_s1 x0.R_ y33) fun y40 => (some y40))) y29)) else (some false)) fun (s21 : Bool) => (some (s21 != x0.Not_))))
theorem rule_asks_1_s0_ok {x0 : St39} {x1 : List Int} {x2 : List Int} {x3 : Int} {x4 : Int} {r : Bool} (h : rule_asks_1_s0 x0 x1 x2 x3 x4 = some r) : SC Tryz.prog 34 [.agg (encSt39 x0), .ptr 0 0] [.box [lsv (encI .u8) 1 x1, lsv (encI .u8) 1 x2, .int .i64 x3, .int .i64 x4]] (.bool r) [.box [lsv (encI .u8) 1 x1, lsv (encI .u8) 1 x2, .int .i64 x3, .int .i64 x4]] := by
 refine kFn (fn := Tryz.f34) (fun F hFn hFH hFD => ?_)
 unfold rule_asks_1_s0 at h
 refine kSR ?_
 refine kC 2 [1,2,3] ?_
 refine kEN ?_
 refine kSR ?_
 refine kC 3 [2,3,8,10] ?_
 obtain ⟨y1, hy2, h3⟩ := bindS h
 refine RJ.call0 (d := (some 11)) (f := 35) (args := [.agg [lsv (encI .u8) 1 x1, lsv (encI .u8) 1 x2, .int .i64 x3, .int .i64 x4], .int .u8 x0.Op_]) (v := .tup [lsv (encI .u8) 1 y1.1, .bool y1.2]) (tr2 := []) (by kernel_rfl) (by kernel_rfl) (.cons (Le.refl _) (.cons (Le.refl _) .nil)) (oper_Operand_ok hy2) (by kernel_rfl) ?_
 refine kC 5 [2,3,4,5] ?_
 refine kEN ?_
 obtain ⟨s21, hy23, h25⟩ := bindS h3
 refine K.cutN (by kernel_rfl) (fun (s21 : Bool) => ([(2, .ptr 1 0), (3, .bool false), (6, .bool s21)], [.box [lsv (encI .u8) 1 x1, lsv (encI .u8) 1 x2, .int .i64 x3, .int .i64 x4], .box (encSt39 x0)])) s21 ?_ ?_
 ·refine J.keep [2, 3, 4, 5] (L2 := [(2, .ptr 1 0), (3, .bool false), (4, lsv (encI .u8) 1 y1.1), (5, .bool y1.2)]) (by kernel_rfl) ?_
  refine K.draw (by kernel_rfl) (by kernel_rfl) (by kernel_rfl) (H2 := [.box [lsv (encI .u8) 1 x1, lsv (encI .u8) 1 x2, .int .i64 x3, .int .i64 x4], .box (encSt39 x0), .res, .res]) (by kernel_rfl) (n := 2) (by kernel_rfl) ?_
  refine RJ.segD 2 (tr2 := [([], []), ([], [])]) (L2 := [(15, .bool y1.2), (14, .bool y1.2), (2, .ptr 1 0), (3, .bool false), (4, lsv (encI .u8) 1 y1.1), (5, .bool y1.2)]) (H2 := [.box [lsv (encI .u8) 1 x1, lsv (encI .u8) 1 x2, .int .i64 x3, .int .i64 x4], .box (encSt39 x0), .res, .res]) (by kernel_rfl) ?_
  refine RJ.caseB 15 (b := y1.2) (by kernel_rfl) (fun hb26 => ?_) (fun hb26 => ?_)
  ·have h27 := condT hb26 hy23
   refine kD 5 ?_
   obtain ⟨y29, hy30, h31⟩ := bindS h27
   rcases y29 with y32 | y33
   ·have h34 := elimL h31
    refine RJ.callM (d := (some 21)) (f := 37) (args := [lsv (encI .u8) 1 y1.1, .int .i64 x0.Mod_]) (v0 := .fn (.func 52) [] [.ptr 0 0]) (v := .fn (.func 52) [] [.ptr 2 0]) (en0 := .box [lsv (encI .u8) 1 y1.1]) (tr2 := [([], []), ([], []), ([], []), ([2, 3], []), ([], []), ([], []), ([2, 3], []), ([], [4, 5, 4, 5])]) (H2 := [.box [lsv (encI .u8) 1 x1, lsv (encI .u8) 1 x2, .int .i64 x3, .int .i64 x4], .box (encSt39 x0), .box [lsv (encI .u8) 1 y1.1], .res]) 2 (by kernel_rfl) (by kernel_rfl) (by kernel_rfl) (by kernel_rfl) (.cons (Le.refl _) (.cons (Le.refl _) .nil)) (rule_holding_s0_ok0 hy30) (by kernel_rfl) (by kernel_rfl) ?_ (hE := ern_box (by kernel_rfl))
    obtain ⟨y36, hy37, h38⟩ := bindS h34
    refine RJ.callU (d := (some 22)) (f := 36) (args := [lsv encSt41 2 x0.R_, .fn (.func 52) [] [.ptr 2 0]]) (args0 := [lsv encSt41 2 x0.R_, .fn (.func 52) [] [.ptr 0 0]]) (v := .bool y36) (tr2 := [([], []), ([], []), ([], []), ([2, 3], []), ([], []), ([], []), ([2, 3], []), ([], [4, 5, 4, 5]), ([4, 5], [6, 7])]) (H0 := [.box [lsv (encI .u8) 1 y1.1]]) [2] (by kernel_rfl) (by kernel_rfl) (by kernel_rfl) (by kernel_rfl) (by decide) (by kernel_rfl) (by kernel_rfl) (by kernel_rfl) (.cons (Le.refl _) (.cons (Le.refl _) .nil)) (slices_ContainsFunc_s0_ok hy37) (by kernel_rfl) ?_
    refine kD 2 ?_
    refine kE ?_
    obtain rfl := oi h38
    refine PJ.wk (Wk.sel (L2 := [(2, .ptr 1 0), (3, .bool false), (6, .bool y36)]) (H2 := [.box [lsv (encI .u8) 1 x1, lsv (encI .u8) 1 x2, .int .i64 x3, .int .i64 x4], .box (encSt39 x0)]) 1 (by rw [hFH]; rfl) hFD [0, 1] (by kernel_rfl) (by kernel_rfl) (by decide) (by kernel_rfl) (by kernel_rfl) (by kernel_rfl) (by kernel_rfl)) ?_
    exact kN [2, 3, 6]
   ·have h35 := elimR h31
    refine RJ.callM (d := (some 21)) (f := 37) (args := [lsv (encI .u8) 1 y1.1, .int .i64 x0.Mod_]) (v0 := .fn (.func 55) [] [.ptr 0 0]) (v := .fn (.func 55) [] [.ptr 2 0]) (en0 := .box [.int .i64 y33]) (tr2 := [([], []), ([], []), ([], []), ([2, 3], []), ([], []), ([], []), ([2, 3], []), ([], [4, 5, 4, 5])]) (H2 := [.box [lsv (encI .u8) 1 x1, lsv (encI .u8) 1 x2, .int .i64 x3, .int .i64 x4], .box (encSt39 x0), .box [.int .i64 y33], .res]) 2 (by kernel_rfl) (by kernel_rfl) (by kernel_rfl) (by kernel_rfl) (.cons (Le.refl _) (.cons (Le.refl _) .nil)) (rule_holding_s0_ok1 hy30) (by kernel_rfl) (by kernel_rfl) ?_ (hE := ern_box (by kernel_rfl))
    obtain ⟨y40, hy41, h42⟩ := bindS h35
    refine RJ.callU (d := (some 22)) (f := 36) (args := [lsv encSt41 2 x0.R_, .fn (.func 55) [] [.ptr 2 0]]) (args0 := [lsv encSt41 2 x0.R_, .fn (.func 55) [] [.ptr 0 0]]) (v := .bool y40) (tr2 := [([], []), ([], []), ([], []), ([2, 3], []), ([], []), ([], []), ([2, 3], []), ([], [4, 5, 4, 5]), ([4, 5], [6, 7])]) (H0 := [.box [.int .i64 y33]]) [2] (by kernel_rfl) (by kernel_rfl) (by kernel_rfl) (by kernel_rfl) (by decide) (by kernel_rfl) (by kernel_rfl) (by kernel_rfl) (.cons (Le.refl _) (.cons (Le.refl _) .nil)) (slices_ContainsFunc_s1_ok hy41) (by kernel_rfl) ?_
    refine kD 2 ?_
    refine kE ?_
    obtain rfl := oi h42
    refine PJ.wk (Wk.sel (L2 := [(2, .ptr 1 0), (3, .bool false), (6, .bool y40)]) (H2 := [.box [lsv (encI .u8) 1 x1, lsv (encI .u8) 1 x2, .int .i64 x3, .int .i64 x4], .box (encSt39 x0)]) 1 (by rw [hFH]; rfl) hFD [0, 1] (by kernel_rfl) (by kernel_rfl) (by decide) (by kernel_rfl) (by kernel_rfl) (by kernel_rfl) (by kernel_rfl)) ?_
    exact kN [2, 3, 6]
  ·have h28 := condF hb26 hy23
   refine kD 9 ?_
   refine kE ?_
   obtain rfl := oi h28
   refine PJ.wk (Wk.sel (L2 := [(2, .ptr 1 0), (3, .bool false), (6, .bool false)]) (H2 := [.box [lsv (encI .u8) 1 x1, lsv (encI .u8) 1 x2, .int .i64 x3, .int .i64 x4], .box (encSt39 x0)]) 1 (by rw [hFH]; rfl) hFD [0, 1] (by kernel_rfl) (by kernel_rfl) (by decide) (by kernel_rfl) (by kernel_rfl) (by kernel_rfl) (by kernel_rfl)) ?_
   exact kN [2, 3, 6]
 ·refine kSR ?_
  refine kC 5 [3] ?_
  refine kEN ?_
  refine kX ?_
  obtain rfl := oi h25
  exact K.retV (H0 := [.box [lsv (encI .u8) 1 x1, lsv (encI .u8) 1 x2, .int .i64 x3, .int .i64 x4]]) [0] (.inr rfl) hFn hFH hFD (by kernel_rfl) (v1 := .bool (s21 != x0.Not_)) (by kernel_rfl) (by kernel_rfl) (by kernel_rfl) (by decide) (by kernel_rfl) (by kernel_rfl) (by kernel_rfl) (by kernel_rfl) (by kernel_rfl)
def rule_Holds (x0 : List (List St39)) (x1 : St25) : Option (Bool) :=
 (Option.bind (rule_asks_s0 x1) fun y1 => (Option.bind (loopN (fun (s678 : Int) => (bif (decide (s678 < (x0.length : Int))) then (Option.bind (bif inR s678 x0.length then (Option.bind (loopN (fun (s1293 : Int) => (bif (decide (s1293 < ((nth x0 s678).length : Int))) then (bif inR s1293 (nth x0 s678).length then (Option.bind (rule_asks_1_s0 (nth (nth x0 s678) s1293) x1.I_ x1.F_ x1.W_ x1.C_) fun y1330 => (bif (!y1330) then (some (.inr (.inr (.inl ())))) else (some (.inl (IntKind.wrap .i64 (s1293 + 1)))))) else none) else (some (.inr (.inl ()))))) big 0) (joinX fun (s1288 : Unit) => (some (.inr (.inr (.inr true)))))) else none) (joinX fun (s1234 : Unit) => (some (.inl (IntKind.wrap .i64 (s678 + 1)))))) else (some (.inr (.inl ()))))) big 0) (joinX fun (s673 : Unit) => (some false))))
theorem rule_Holds_ok {x0 : List (List St39)} {x1 : St25} {r : Bool} (h : rule_Holds x0 x1 = some r) : SC Tryz.prog 13 [lsv (encL encSt39 4) 1 x0, .agg (encSt25 x1)] [] (.bool r) [] := by
 refine kFn (fn := Tryz.f13) (fun F hFn hFH hFD => ?_)
 unfold rule_Holds at h
 refine kSR ?_
 refine kC 2 [0,3,4] ?_
 refine kEN ?_
 refine K.scope (by kernel_rfl) ?_
 refine kSR ?_
 refine kC 1 [0,4,10] ?_
 obtain ⟨y1, hy2, h3⟩ := bindS h
 refine RJ.callG (d := (some 11)) (f := 25) (args := [.agg (encSt25 x1)]) (args0 := [.agg (encSt25 x1)]) (v0 := .fn (.func 34) [] [.ptr 0 0]) (v := .fn (.func 34) [] [.ptr 1 0]) (tr2 := []) (H0 := []) (H0' := [.box (encSt25 x1)]) (H2 := [.box (encSt25 x1), .box (encSt25 x1)]) [] (by kernel_rfl) (by kernel_rfl) (by kernel_rfl) (by kernel_rfl) (by decide) (by kernel_rfl) (by kernel_rfl) (by kernel_rfl) (.cons (Le.refl _) .nil) (rule_asks_s0_ok hy2) (by kernel_rfl) (by kernel_rfl) (by kernel_rfl) ?_
 refine kC 1 [0,4,5] ?_
 refine kEN ?_
 refine kS ?_
 refine K.label (by kernel_rfl) ?_
 refine PJ.next ?_
 obtain ⟨y674, hy675, h676⟩ := bindS h3
 refine K.cutX (by kernel_rfl) (fun (s673 : Unit) => ([(4, .bool false)], [])) y674 ?_ (fun s673 hs => ?_)
 ·refine kSR ?_
  refine RJ.seg 3 [4, 5, 12, 13, 14] (L2 := [(4, .bool false), (5, .fn (.func 34) [] [.ptr 1 0]), (12, lsv (encL encSt39 4) 1 x0), (13, .int .i64 (x0.length : Int)), (14, .int .i64 0)]) (H2 := [.box (encSt25 x1), .box (encSt25 x1)]) (by kernel_rfl) ?_
  refine kEN ?_
  refine K.block 0 (by kernel_rfl) ?_
  refine J.wk (Wk.sel (L2 := [(4, .bool false), (5, .fn (.func 34) [] [.ptr 0 0]), (12, lsv (encL encSt39 4) 1 x0), (13, .int .i64 (x0.length : Int)), (14, .int .i64 0)]) (H2 := [.box (encSt25 x1)]) 0 (by rw [hFH]; rfl) hFD [1] (by kernel_rfl) (by kernel_rfl) (by decide) (by kernel_rfl) (by kernel_rfl) (by kernel_rfl) (by kernel_rfl)) ?_
  refine K.loop (by kernel_rfl) (fun (s678 : Int) => ([(4, .bool false), (5, .fn (.func 34) [] [.ptr 0 0]), (12, lsv (encL encSt39 4) 1 x0), (13, .int .i64 (x0.length : Int)), (14, .int .i64 s678)], [.box (encSt25 x1)])) hy675 [4, 5, 12, 13, 14] (by kernel_rfl) (by kernel_rfl) (fun s678 x1124 hs1123 => ?_)
  refine kSR ?_
  refine kC 1 [4,5,12,13,14,15] ?_
  refine kEN ?_
  refine kS ?_
  refine J.caseB 15 (b := (decide (s678 < (x0.length : Int)))) (by kernel_rfl) (fun hb1125 => ?_) (fun hb1125 => ?_)
  ·have h1126 := condT hb1125 hs1123
   refine kT ?_
   refine kK ?_
   refine PJ.next ?_
   obtain ⟨y1235, hy1236, h1237⟩ := bindS h1126
   refine K.cutX (by kernel_rfl) (fun (s1234 : Unit) => ([(4, .bool false), (5, .fn (.func 34) [] [.ptr 0 0]), (12, lsv (encL encSt39 4) 1 x0), (13, .int .i64 (x0.length : Int)), (14, .int .i64 s678)], [.box (encSt25 x1)])) y1235 ?_ (fun s1234 hs => ?_)
   ·refine K.block 1 (by kernel_rfl) ?_
    refine kSR ?_
    obtain ⟨hm, h1239⟩ := asrt hy1236
    refine RJ.rel (d := (some 16)) (ef := ⟨.ep (((x0.flatMap (encL encSt39 4)).drop ((s678 : Int).toNat * 1)).take 1), [], []⟩) (ef' := ⟨.ep ((encL encSt39 4) (nth x0 s678)), [], []⟩) (c := inR s678 x0.length) (tr2 := []) (H2 := [.box (encSt25 x1)]) (by kernel_rfl) hm (fun hc => N.idx (encL_len encSt39 4) hc) (by kernel_rfl) ?_
    refine kC 2 [4,5,7,12,13,14] ?_
    refine kEN ?_
    obtain ⟨y1289, hy1290, h1291⟩ := bindS h1239
    refine K.cutX (by kernel_rfl) (fun (s1288 : Unit) => ([(4, .bool false), (5, .fn (.func 34) [] [.ptr 0 0]), (12, lsv (encL encSt39 4) 1 x0), (13, .int .i64 (x0.length : Int)), (14, .int .i64 s678)], [.box (encSt25 x1)])) y1289 ?_ (fun s1288 hs => ?_)
    ·refine kSR ?_
     refine kC 3 [4,5,12,13,14,18,19,20] ?_
     refine kEN ?_
     refine K.block 2 (by kernel_rfl) ?_
     refine K.loop (by kernel_rfl) (fun (s1293 : Int) => ([(4, .bool false), (5, .fn (.func 34) [] [.ptr 0 0]), (12, lsv (encL encSt39 4) 1 x0), (13, .int .i64 (x0.length : Int)), (14, .int .i64 s678), (18, lsv encSt39 4 (nth x0 s678)), (19, .int .i64 ((nth x0 s678).length : Int)), (20, .int .i64 s1293)], [.box (encSt25 x1)])) hy1290 [4, 5, 12, 13, 14, 18, 19, 20] (by kernel_rfl) (by kernel_rfl) (fun s1293 x1325 hs1324 => ?_)
     refine kSR ?_
     refine kC 1 [4,5,12,13,14,18,19,20,21] ?_
     refine kEN ?_
     refine kS ?_
     refine J.caseB 21 (b := (decide (s1293 < ((nth x0 s678).length : Int)))) (by kernel_rfl) (fun hb1326 => ?_) (fun hb1326 => ?_)
     ·have h1327 := condT hb1326 hs1324
      refine kT ?_
      refine kK ?_
      refine PJ.next ?_
      refine kS ?_
      refine K.block 3 (by kernel_rfl) ?_
      refine kSR ?_
      obtain ⟨hm, h1329⟩ := asrt h1327
      refine RJ.rel (d := (some 22)) (ef := ⟨.ep ((((nth x0 s678).flatMap encSt39).drop ((s1293 : Int).toNat * 4)).take 4), [], []⟩) (ef' := ⟨.ep (encSt39 (nth (nth x0 s678) s1293)), [], []⟩) (c := inR s1293 (nth x0 s678).length) (tr2 := []) (H2 := [.box (encSt25 x1)]) (by kernel_rfl) hm (fun hc => N.idx encSt39_len hc) (by kernel_rfl) ?_
      refine kC 3 [4,5,9,12,13,14,18,19,20] ?_
      refine kEN ?_
      refine kSR ?_
      refine kC 2 [4,5,12,13,14,18,19,20,24,25] ?_
      obtain ⟨y1330, hy1331, h1332⟩ := bindS h1329
      refine RJ.callG (d := (some 26)) (f := 34) (args := [.agg [.int .u8 ((nth (nth x0 s678) s1293).Op_), .int .i64 ((nth (nth x0 s678) s1293).Mod_), .bool ((nth (nth x0 s678) s1293).Not_), lsv encSt41 2 ((nth (nth x0 s678) s1293).R_)], .ptr 0 0]) (args0 := [.agg [.int .u8 ((nth (nth x0 s678) s1293).Op_), .int .i64 ((nth (nth x0 s678) s1293).Mod_), .bool ((nth (nth x0 s678) s1293).Not_), lsv encSt41 2 ((nth (nth x0 s678) s1293).R_)], .ptr 0 0]) (v0 := .bool y1330) (v := .bool y1330) (tr2 := []) (H0 := [.box (encSt25 x1)]) (H0' := [.box (encSt25 x1)]) (H2 := [.box (encSt25 x1), .box [.int .u8 ((nth (nth x0 s678) s1293).Op_), .int .i64 ((nth (nth x0 s678) s1293).Mod_), .bool ((nth (nth x0 s678) s1293).Not_), lsv encSt41 2 ((nth (nth x0 s678) s1293).R_)]]) [0] (by kernel_rfl) (by kernel_rfl) (by kernel_rfl) (by kernel_rfl) (by decide) (by kernel_rfl) (by kernel_rfl) (by kernel_rfl) (.cons (Le.refl _) (.cons (Le.refl _) .nil)) (rule_asks_1_s0_ok hy1331) (by kernel_rfl) (by kernel_rfl) (by kernel_rfl) ?_
      refine RJ.seg 1 [4, 5, 12, 13, 14, 18, 19, 20, 27] (L2 := [(4, .bool false), (5, .fn (.func 34) [] [.ptr 0 0]), (12, lsv (encL encSt39 4) 1 x0), (13, .int .i64 (x0.length : Int)), (14, .int .i64 s678), (18, lsv encSt39 4 (nth x0 s678)), (19, .int .i64 ((nth x0 s678).length : Int)), (20, .int .i64 s1293), (27, .bool (!y1330))]) (H2 := [.box (encSt25 x1), .box [.int .u8 ((nth (nth x0 s678) s1293).Op_), .int .i64 ((nth (nth x0 s678) s1293).Mod_), .bool ((nth (nth x0 s678) s1293).Not_), lsv encSt41 2 ((nth (nth x0 s678) s1293).R_)]]) (by kernel_rfl) ?_
      refine kEN ?_
      refine J.caseB 27 (b := (!y1330)) (by kernel_rfl) (fun hb1333 => ?_) (fun hb1333 => ?_)
      ·have h1334 := condT hb1333 h1332
       refine kT ?_
       refine K.exit 1 (by kernel_rfl) ?_
       refine PJ.blockPass (by kernel_rfl) ?_
       refine PJ.passExit ?_
       obtain rfl := oi h1334
       refine PJ.loopOut (fun e => nomatch e) (fun he1338 => ?_)
       have h1336 := congrArg some he1338
       refine PJ.blockPass (by kernel_rfl) ?_
       obtain rfl := oi h1336
       have h1337 := joinX_inr h1291
       refine PJ.cutXr (fun e => nomatch e) ?_
       refine PJ.blockOut ?_
       obtain rfl := oi h1337
       refine PJ.wk (Wk.sel (L2 := [(4, .bool false), (5, .fn (.func 34) [] [.ptr 0 0]), (12, lsv (encL encSt39 4) 1 x0), (13, .int .i64 (x0.length : Int)), (14, .int .i64 s678)]) (H2 := [.box (encSt25 x1)]) 0 (by rw [hFH]; rfl) hFD [0] (by kernel_rfl) (by kernel_rfl) (by decide) (by kernel_rfl) (by kernel_rfl) (by kernel_rfl) (by kernel_rfl)) ?_
       exact PJ.cutXl [4, 5, 12, 13, 14] (by kernel_rfl) (by kernel_rfl)
      ·have h1335 := condF hb1333 h1332
       refine kF ?_
       refine kK ?_
       refine PJ.blockNormal ?_
       refine PJ.next ?_
       refine kR ?_
       refine kC 2 [4,5,12,13,14,18,19,20] ?_
       refine kE ?_
       obtain rfl := oi h1335
       refine PJ.wk (Wk.sel (L2 := [(4, .bool false), (5, .fn (.func 34) [] [.ptr 0 0]), (12, lsv (encL encSt39 4) 1 x0), (13, .int .i64 (x0.length : Int)), (14, .int .i64 s678), (18, lsv encSt39 4 (nth x0 s678)), (19, .int .i64 ((nth x0 s678).length : Int)), (20, .int .i64 (IntKind.wrap .i64 (s1293 + 1)))]) (H2 := [.box (encSt25 x1)]) 0 (by rw [hFH]; rfl) hFD [0] (by kernel_rfl) (by kernel_rfl) (by decide) (by kernel_rfl) (by kernel_rfl) (by kernel_rfl) (by kernel_rfl)) ?_
       exact PJ.loopNext [4, 5, 12, 13, 14, 18, 19, 20] (by kernel_rfl) (by kernel_rfl)
     ·have h1328 := condF hb1326 hs1324
      refine kF ?_
      refine K.exit 2 (by kernel_rfl) ?_
      refine PJ.passExit ?_
      obtain rfl := oi h1328
      refine PJ.loopOut (fun e => nomatch e) (fun he1340 => ?_)
      have h1339 := congrArg some he1340
      refine PJ.blockOut ?_
      obtain rfl := oi h1339
      exact PJ.cutXl [4, 5, 12, 13, 14] (by kernel_rfl) (by kernel_rfl)
    ·subst hs
     have h1292 := joinX_inl h1291
     refine kSR ?_
     refine kC 1 [4,5,12,13,14] ?_
     refine kEN ?_
     refine kX ?_
     refine PJ.blockRet ?_
     obtain rfl := oi h1292
     have h1341 := joinX_inr h1237
     refine PJ.cutXr (fun e => nomatch e) ?_
     obtain rfl := oi h1341
     refine PJ.loopOut (fun e => nomatch e) (fun he1344 => ?_)
     have h1342 := congrArg some he1344
     refine PJ.blockRet ?_
     obtain rfl := oi h1342
     have h1343 := joinX_inr h676
     refine PJ.cutXr (fun e => nomatch e) ?_
     refine PJ.scR ?_
     obtain rfl := oi h1343
     exact kZ hFn hFH hFD
   ·subst hs
    have h1238 := joinX_inl h1237
    refine kR ?_
    refine kC 2 [4,5,12,13,14] ?_
    refine kE ?_
    obtain rfl := oi h1238
    exact PJ.loopNext [4, 5, 12, 13, 14] (by kernel_rfl) (by kernel_rfl)
  ·have h1127 := condF hb1125 hs1123
   refine kF ?_
   refine K.exit 0 (by kernel_rfl) ?_
   refine PJ.passExit ?_
   obtain rfl := oi h1127
   refine PJ.loopOut (fun e => nomatch e) (fun he1346 => ?_)
   have h1345 := congrArg some he1346
   refine PJ.blockOut ?_
   obtain rfl := oi h1345
   refine PJ.wk (Wk.sel (L2 := [(4, .bool false)]) (H2 := []) 0 (by rw [hFH]; rfl) hFD [] (by kernel_rfl) (by kernel_rfl) (by decide) (by kernel_rfl) (by kernel_rfl) (by kernel_rfl) (by kernel_rfl)) ?_
   exact PJ.cutXl [4] (by kernel_rfl) (by kernel_rfl)
 ·subst hs
  have h677 := joinX_inl h676
  refine kSR ?_
  refine kC 1 [4] ?_
  refine kEN ?_
  refine kX ?_
  refine PJ.scR ?_
  obtain rfl := oi h677
  exact kZ hFn hFH hFD
def k0_ : List UInt8 := [48, 48, 48, 49, 48, 50, 48, 51, 48, 52, 48, 53, 48, 54, 48, 55, 48, 56, 48, 57, 49, 48, 49, 49, 49, 50, 49, 51, 49, 52, 49, 53, 49, 54, 49, 55, 49, 56, 49, 57, 50, 48, 50, 49, 50, 50, 50, 51, 50, 52, 50, 53, 50, 54, 50, 55, 50, 56, 50, 57, 51, 48, 51, 49, 51, 50, 51, 51, 51, 52, 51, 53, 51, 54, 51, 55, 51, 56, 51, 57, 52, 48, 52, 49, 52, 50, 52, 51, 52, 52, 52, 53, 52, 54, 52, 55, 52, 56, 52, 57, 53, 48, 53, 49, 53, 50, 53, 51, 53, 52, 53, 53, 53, 54, 53, 55, 53, 56, 53, 57, 54, 48, 54, 49, 54, 50, 54, 51, 54, 52, 54, 53, 54, 54, 54, 55, 54, 56, 54, 57, 55, 48, 55, 49, 55, 50, 55, 51, 55, 52, 55, 53, 55, 54, 55, 55, 55, 56, 55, 57, 56, 48, 56, 49, 56, 50, 56, 51, 56, 52, 56, 53, 56, 54, 56, 55, 56, 56, 56, 57, 57, 48, 57, 49, 57, 50, 57, 51, 57, 52, 57, 53, 57, 54, 57, 55, 57, 56, 57, 57]
def strconv_small (x0 : Int) : Option (List UInt8) :=
 (bif (decide (x0 < 10)) then (bif inS x0 (IntKind.wrap .i64 (x0 + 1)) ([48, 49, 50, 51, 52, 53, 54, 55, 56, 57, 97, 98, 99, 100, 101, 102, 103, 104, 105, 106, 107, 108, 109, 110, 111, 112, 113, 114, 115, 116, 117, 118, 119, 120, 121, 122] : List UInt8).length then (some (cut ([48, 49, 50, 51, 52, 53, 54, 55, 56, 57, 97, 98, 99, 100, 101, 102, 103, 104, 105, 106, 107, 108, 109, 110, 111, 112, 113, 114, 115, 116, 117, 118, 119, 120, 121, 122] : List UInt8) x0 (IntKind.wrap .i64 (x0 + 1)))) else none) else (bif inS (IntKind.wrap .i64 (x0 * 2)) ((IntKind.wrap .i64 ((IntKind.wrap .i64 (x0 * 2)) + 2))) k0_.length then (some (cut k0_ (IntKind.wrap .i64 (x0 * 2)) ((IntKind.wrap .i64 ((IntKind.wrap .i64 (x0 * 2)) + 2))))) else none))
theorem strconv_small_ok {x0 : Int} {r : List UInt8} (h : strconv_small x0 = some r) : SC Tryz.prog 78 [.int .i64 x0] [] (.str r) [] := by
 refine kFn (fn := Tryz.f78) (fun F hFn hFH hFD => ?_)
 unfold strconv_small at h
 refine kSR ?_
 refine kC 1 [0,2] ?_
 refine kEN ?_
 refine kS ?_
 refine kSR ?_
 refine kC 2 [0,2,4] ?_
 refine kEN ?_
 refine J.caseB 4 (b := (decide (x0 < 10))) (by kernel_rfl) (fun hb1 => ?_) (fun hb1 => ?_)
 ·have h2 := condT hb1 h
  refine kT ?_
  refine kSR ?_
  refine kC 3 [0,2,5,7] ?_
  obtain ⟨hm, h4⟩ := asrt h2
  refine RJ.rel (d := (some 8)) (ef := ⟨.str (cut ([48, 49, 50, 51, 52, 53, 54, 55, 56, 57, 97, 98, 99, 100, 101, 102, 103, 104, 105, 106, 107, 108, 109, 110, 111, 112, 113, 114, 115, 116, 117, 118, 119, 120, 121, 122] : List UInt8) x0 (IntKind.wrap .i64 (x0 + 1))), [], []⟩) (ef' := ⟨.str (cut ([48, 49, 50, 51, 52, 53, 54, 55, 56, 57, 97, 98, 99, 100, 101, 102, 103, 104, 105, 106, 107, 108, 109, 110, 111, 112, 113, 114, 115, 116, 117, 118, 119, 120, 121, 122] : List UInt8) x0 (IntKind.wrap .i64 (x0 + 1))), [], []⟩) (c := inS x0 (IntKind.wrap .i64 (x0 + 1)) ([48, 49, 50, 51, 52, 53, 54, 55, 56, 57, 97, 98, 99, 100, 101, 102, 103, 104, 105, 106, 107, 108, 109, 110, 111, 112, 113, 114, 115, 116, 117, 118, 119, 120, 121, 122] : List UInt8).length) (tr2 := []) (H2 := []) (by kernel_rfl) hm (fun hc => rfl) (by kernel_rfl) ?_
  refine RJ.seg 1 [0, 2] (L2 := [(0, .int .i64 x0), (2, .str ((cut ([48, 49, 50, 51, 52, 53, 54, 55, 56, 57, 97, 98, 99, 100, 101, 102, 103, 104, 105, 106, 107, 108, 109, 110, 111, 112, 113, 114, 115, 116, 117, 118, 119, 120, 121, 122] : List UInt8) x0 (IntKind.wrap .i64 (x0 + 1)))))]) (H2 := []) (by kernel_rfl) ?_
  refine kEN ?_
  refine kX ?_
  refine PJ.passRet ?_
  obtain rfl := oi h4
  exact kZ hFn hFH hFD
 ·have h3 := condF hb1 h
  refine kF ?_
  refine kK ?_
  refine PJ.next ?_
  refine kSR ?_
  refine kC 5 [2,10,13] ?_
  obtain ⟨hm, h5⟩ := asrt h3
  refine RJ.rel (d := (some 14)) (ef := ⟨.str (cut k0_ (IntKind.wrap .i64 (x0 * 2)) ((IntKind.wrap .i64 ((IntKind.wrap .i64 (x0 * 2)) + 2)))), [], []⟩) (ef' := ⟨.str (cut k0_ (IntKind.wrap .i64 (x0 * 2)) ((IntKind.wrap .i64 ((IntKind.wrap .i64 (x0 * 2)) + 2)))), [], []⟩) (c := inS (IntKind.wrap .i64 (x0 * 2)) ((IntKind.wrap .i64 ((IntKind.wrap .i64 (x0 * 2)) + 2))) k0_.length) (tr2 := []) (H2 := []) (by kernel_rfl) hm (fun hc => rfl) (by kernel_rfl) ?_
  refine RJ.seg 1 [2] (L2 := [(2, .str ((cut k0_ (IntKind.wrap .i64 (x0 * 2)) ((IntKind.wrap .i64 ((IntKind.wrap .i64 (x0 * 2)) + 2))))))]) (H2 := []) (by kernel_rfl) ?_
  refine kEN ?_
  refine kX ?_
  obtain rfl := oi h5
  exact kZ hFn hFH hFD
end Go.Proofs.YthpnbgbignjlpaaGreatDoor
