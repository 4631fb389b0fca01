/-
  What the functions of this program come to, as functions of natives, each with the proof that it does. No conditions.
-/
import Derived.Test.YteaokhdkocddcaaDoorProg
import Derived.Test.YteaokhdkocddcaaDoorSySL
import Derived.Test.YteaokhdkocddcaaDoorSyRF
import Derived.Test.YteaokhdkocddcaaDoorSyKK
import Derived.Test.YteaokhdkocddcaaDoorSyFS
import Derived.Test.YteaokhdkocddcaaDoorSySC
import Derived.Shelf.Strings.Search1
import Derived.Shelf.Lays
import Derived.Lib.ItoaLen
namespace Go.Proofs.YteaokhdkocddcaaDoor
open Go Go.Sy Go.RowKit
set_option linter.unusedVariables false
set_option linter.unusedSimpArgs false
set_option maxRecDepth 100000
set_option maxHeartbeats 4000000
def gtabs : Nat → Option (List SV)
 | 1 => some [.int .u64 1, .int .u64 10, .int .u64 100, .int .u64 1000, .int .u64 10000, .int .u64 100000, .int .u64 1000000, .int .u64 10000000, .int .u64 100000000, .int .u64 1000000000, .int .u64 10000000000, .int .u64 100000000000, .int .u64 1000000000000, .int .u64 10000000000000, .int .u64 100000000000000, .int .u64 1000000000000000, .int .u64 10000000000000000, .int .u64 100000000000000000, .int .u64 1000000000000000000, .int .u64 10000000000000000000]
 | 2 => some [.int .u8 0, .int .u8 1, .int .u8 28, .int .u8 2, .int .u8 29, .int .u8 14, .int .u8 24, .int .u8 3, .int .u8 30, .int .u8 22, .int .u8 20, .int .u8 15, .int .u8 25, .int .u8 17, .int .u8 4, .int .u8 8, .int .u8 31, .int .u8 27, .int .u8 13, .int .u8 23, .int .u8 21, .int .u8 19, .int .u8 16, .int .u8 7, .int .u8 26, .int .u8 12, .int .u8 18, .int .u8 6, .int .u8 11, .int .u8 5, .int .u8 10, .int .u8 9]
 | 3 => some [.int .u8 0, .int .u8 1, .int .u8 56, .int .u8 2, .int .u8 57, .int .u8 49, .int .u8 28, .int .u8 3, .int .u8 61, .int .u8 58, .int .u8 42, .int .u8 50, .int .u8 38, .int .u8 29, .int .u8 17, .int .u8 4, .int .u8 62, .int .u8 47, .int .u8 59, .int .u8 36, .int .u8 45, .int .u8 43, .int .u8 51, .int .u8 22, .int .u8 53, .int .u8 39, .int .u8 33, .int .u8 30, .int .u8 24, .int .u8 18, .int .u8 12, .int .u8 5, .int .u8 63, .int .u8 55, .int .u8 48, .int .u8 27, .int .u8 60, .int .u8 41, .int .u8 37, .int .u8 16, .int .u8 46, .int .u8 35, .int .u8 44, .int .u8 21, .int .u8 52, .int .u8 32, .int .u8 23, .int .u8 11, .int .u8 54, .int .u8 26, .int .u8 40, .int .u8 15, .int .u8 34, .int .u8 20, .int .u8 31, .int .u8 10, .int .u8 25, .int .u8 14, .int .u8 19, .int .u8 9, .int .u8 13, .int .u8 8, .int .u8 7, .int .u8 6]
 | _ => none
instance : Inhabited GT := ⟨⟨gtabs⟩⟩
structure St73 where
 a0_ : Int
 a1_ : Int
 deriving Inhabited, DecidableEq
def encSt73 (x : St73) : List SV := [.int .i64 x.a0_, .int .i64 x.a1_]
theorem encSt73_len (x : St73) : (encSt73 x).length = 2 := rfl
structure St71 where
 Op_ : Int
 Mod_ : Int
 Not_ : Bool
 R_ : List St73
 deriving Inhabited, DecidableEq
def encSt71 (x : St71) : List SV := [.int .u8 x.Op_, .int .i64 x.Mod_, .bool x.Not_, lsv encSt73 2 x.R_]
theorem encSt71_len (x : St71) : (encSt71 x).length = 4 := rfl
structure St36 where
 Cat_ : Int
 C_ : List (List St71)
 deriving Inhabited, DecidableEq
def encSt36 (x : St36) : List SV := [.int .i64 x.Cat_, lsv (encL encSt71 4) 1 x.C_]
theorem encSt36_len (x : St36) : (encSt36 x).length = 2 := rfl
structure St45 where
 Cat_ : Int
 Text_ : List UInt8
 deriving Inhabited, DecidableEq
def encSt45 (x : St45) : List SV := [.int .i64 x.Cat_, .str x.Text_]
theorem encSt45_len (x : St45) : (encSt45 x).length = 2 := rfl
structure St48 where
 a0_ : List UInt8
 a1_ : List UInt8
 a2_ : List UInt8
 a3_ : List UInt8
 a4_ : List UInt8
 a5_ : List UInt8
 deriving Inhabited, DecidableEq
def encSt48 (x : St48) : List SV := [.str x.a0_, .str x.a1_, .str x.a2_, .str x.a3_, .str x.a4_, .str x.a5_]
theorem encSt48_len (x : St48) : (encSt48 x).length = 6 := rfl
def plur_names  : Option (St48) :=
 (some (⟨([111, 116, 104, 101, 114] : List UInt8), ([122, 101, 114, 111] : List UInt8), ([111, 110, 101] : List UInt8), ([116, 119, 111] : List UInt8), ([102, 101, 119] : List UInt8), ([109, 97, 110, 121] : List UInt8)⟩ : St48))
theorem plur_names_ok  {r : St48} (h : plur_names = some r) : SC Tryd.prog 17 [] [] (.agg (encSt48 r)) [] := by
 refine kFn (fn := Tryd.f17) (fun F hFn hFH hFD => ?_)
 unfold plur_names at h
 refine kSR ?_
 refine kC 1 [0] ?_
 refine kEN ?_
 refine kSR ?_
 refine kC 2 [0] ?_
 refine kEN ?_
 refine kX ?_
 obtain rfl := oi h
 exact kZ hFn hFH hFD
def plur_rises (x0 : Int) (x1 : Int) : Option (Bool) :=
 (Option.bind (bif (decide (x1 > x0)) then (Option.bind plur_names fun y15 => (some (decide (x1 < 6)))) else (some false)) fun (s7 : Bool) => (some s7))
theorem plur_rises_ok {x0 : Int} {x1 : Int} {r : Bool} (h : plur_rises x0 x1 = some r) : SC Tryd.prog 18 [.int .i64 x0, .int .i64 x1] [] (.bool r) [] := by
 refine kFn (fn := Tryd.f18) (fun F hFn hFH hFD => ?_)
 unfold plur_rises at h
 refine kSR ?_
 refine kC 1 [0,1,4] ?_
 refine kEN ?_
 obtain ⟨s7, hy9, h11⟩ := bindS h
 refine K.cutN (by kernel_rfl) (fun (s7 : Bool) => ([(4, .bool s7)], [])) s7 ?_ ?_
 ·refine kR ?_
  refine kC 4 [1,4,8] ?_
  refine kB 8 hy9 (fun h13 => ?_) (fun h14 => ?_)
  ·refine kC 1 [4,8,9] ?_
   obtain ⟨y15, hy16, h17⟩ := bindS h13
   refine kA 10 (plur_names_ok hy16) ?_
   refine kC 4 [4] ?_
   refine kE ?_
   obtain rfl := oi h17
   exact kN [4]
  ·refine kC 6 [4] ?_
   refine kE ?_
   obtain rfl := oi h14
   exact kN [4]
 ·refine kX ?_
  obtain rfl := oi h11
  exact kZ hFn hFH hFD
def rule_reader__word_1 (x0 : Int) : Option (Bool) :=
 (Option.bind (bif (decide (97 ≤ x0)) then (bif (decide (x0 ≤ 122)) then (some true) else (bif (decide (65 ≤ x0)) then (some (decide (x0 ≤ 90))) else (some false))) else (bif (decide (65 ≤ x0)) then (some (decide (x0 ≤ 90))) else (some false))) fun (s13 : Bool) => (some s13))
theorem rule_reader__word_1_ok {x0 : Int} {r : Bool} (h : rule_reader__word_1 x0 = some r) : SC Tryd.prog 55 [.int .u8 x0] [] (.bool r) [] := by
 refine kFn (fn := Tryd.f55) (fun F hFn hFH hFD => ?_)
 unfold rule_reader__word_1 at h
 refine kSR ?_
 refine kC 1 [0,2] ?_
 refine kEN ?_
 obtain ⟨s13, hy15, h17⟩ := bindS h
 refine K.cutN (by kernel_rfl) (fun (s13 : Bool) => ([(2, .bool s13)], [])) s13 ?_ ?_
 ·refine kR ?_
  refine kC 3 [0,2,5] ?_
  refine kB 5 hy15 (fun h19 => ?_) (fun h20 => ?_)
  ·refine kC 4 [0,2,9] ?_
   refine kB 9 h19 (fun h22 => ?_) (fun h23 => ?_)
   ·refine kC 8 [2] ?_
    refine kE ?_
    obtain rfl := oi h22
    exact kN [2]
   ·refine kC 3 [0,2,9,12] ?_
    refine kB 12 h23 (fun h25 => ?_) (fun h26 => ?_)
    ·refine kC 5 [2] ?_
     refine kE ?_
     obtain rfl := oi h25
     exact kN [2]
    ·refine kC 5 [2] ?_
     refine kE ?_
     obtain rfl := oi h26
     exact kN [2]
  ·refine kC 7 [0,2,9,12] ?_
   refine kB 12 h20 (fun h28 => ?_) (fun h29 => ?_)
   ·refine kC 5 [2] ?_
    refine kE ?_
    obtain rfl := oi h28
    exact kN [2]
   ·refine kC 5 [2] ?_
    refine kE ?_
    obtain rfl := oi h29
    exact kN [2]
 ·refine kX ?_
  obtain rfl := oi h17
  exact kZ hFn hFH hFD
def rule_reader__run_s0 (x0 : List UInt8) (x1 : Int) : Option ((List UInt8) × Int) :=
 (Option.bind (loopN (fun (s138 : Int) => (Option.bind (Option.bind (bif (decide (s138 < (x0.length : Int))) then (bif inR s138 x0.length then (some ((decide (((((x0.getD (s138 : Int).toNat 0).toNat : Nat) : Int)) = 32)))) else none) else (some false)) fun (s255 : Bool) => (bif s255 then (some (.inl ())) else (some (.inr (.inr s138))))) (joinX fun (s246 : Unit) => (some (.inl (IntKind.wrap .i64 (s138 + 1))))))) big x1) fun (s133 : Int) => (Option.bind (loopN (fun (s443 : Int) => (Option.bind (Option.bind (bif (decide (s443 < (x0.length : Int))) then (bif inR s443 x0.length then (Option.bind (rule_reader__word_1 ((((x0.getD (s443 : Int).toNat 0).toNat : Nat) : Int))) fun y602 => (some y602)) else none) else (some false)) fun (s593 : Bool) => (bif s593 then (some (.inl ())) else (some (.inr (.inr s443))))) (joinX fun (s581 : Unit) => (some (.inl (IntKind.wrap .i64 (s443 + 1))))))) big s133) fun (s438 : Int) => (bif inS s133 s438 x0.length then (some ((cut x0 s133 s438), s133)) else none)))
theorem rule_reader__run_s0_ok {x0 : List UInt8} {x1 : Int} {r : (List UInt8) × Int} (h : rule_reader__run_s0 x0 x1 = some r) : SC Tryd.prog 54 [.ptr 0 0, .fn (.func 55) [] []] [.box [.str x0, .int .i64 x1]] (.str r.1) [.box [.str x0, .int .i64 r.2]] := by
 refine kFn (fn := Tryd.f54) (fun F hFn hFH hFD => ?_)
 unfold rule_reader__run_s0 at h
 refine kSR ?_
 refine kC 1 [0,1,4] ?_
 refine kEN ?_
 obtain ⟨s133, hy135, h137⟩ := bindS h
 refine K.cutN (by kernel_rfl) (fun (s133 : Int) => ([(0, .ptr 0 0), (1, .fn (.func 55) [] []), (4, .str ([] : List UInt8))], [.box [.str x0, .int .i64 s133]])) s133 ?_ ?_
 ·refine kb 0 ?_
  refine kl (fun (s138 : Int) => ([(0, .ptr 0 0), (1, .fn (.func 55) [] []), (4, .str ([] : List UInt8))], [.box [.str x0, .int .i64 s138]])) hy135 [0, 1, 4] (fun s138 x226 hs225 => ?_)
  obtain ⟨y247, hy248, h249⟩ := bindS hs225
  refine K.cutX (by kernel_rfl) (fun (s246 : Unit) => ([(0, .ptr 0 0), (1, .fn (.func 55) [] []), (4, .str ([] : List UInt8))], [.box [.str x0, .int .i64 s138]])) y247 ?_ (fun s246 hs => ?_)
  ·obtain ⟨s255, hy257, h259⟩ := bindS hy248
   refine K.cutN (by kernel_rfl) (fun (s255 : Bool) => ([(0, .ptr 0 0), (1, .fn (.func 55) [] []), (4, .str ([] : List UInt8)), (27, .bool s255)], [.box [.str x0, .int .i64 s138]])) s255 ?_ ?_
   ·refine J.keep [0, 1, 4] (L2 := [(0, .ptr 0 0), (1, .fn (.func 55) [] []), (4, .str ([] : List UInt8))]) (by kernel_rfl) ?_
    refine K.draw (by kernel_rfl) (by kernel_rfl) (by kernel_rfl) (H2 := [.box [.str x0, .int .i64 s138]]) (by kernel_rfl) (n := 1) (by kernel_rfl) ?_
    refine kD 11 ?_
    refine kB 16 hy257 (fun h261 => ?_) (fun h262 => ?_)
    ·refine kD 8 ?_
     obtain ⟨hm, h263⟩ := asrt h261
     refine kQ 25 (.int .u8 (((x0.getD (s138 : Int).toNat 0).toNat : Nat) : Int)) [] (tr2 := [([], []), ([], []), ([], []), ([0, 1], []), ([], []), ([], []), ([], []), ([0, 1], []), ([], []), ([], []), ([], []), ([], []), ([], []), ([], []), ([0, 1], []), ([], []), ([], []), ([], []), ([0, 1], []), ([], [])]) hm ?_
     refine kD 2 ?_
     refine kE ?_
     obtain rfl := oi h263
     exact kN [0, 1, 4, 27]
    ·refine kD 11 ?_
     refine kE ?_
     obtain rfl := oi h262
     exact kN [0, 1, 4, 27]
   ·refine kBJ 27 h259 (fun h265 => ?_) (fun h266 => ?_)
    ·refine kT ?_
     refine kK ?_
     obtain rfl := oi h265
     exact kXl [0, 1, 4]
    ·refine kF ?_
     refine K.exit 0 (by kernel_rfl) ?_
     obtain rfl := oi h266
     have h267 := joinX_inr h249
     refine PJ.cutXr (fun e => nomatch e) ?_
     obtain rfl := oi h267
     refine PJ.loopOut (fun e => nomatch e) (fun he269 => ?_)
     have h268 := congrArg some he269
     refine PJ.blockOut ?_
     obtain rfl := oi h268
     exact kN [0, 1, 4]
  ·subst hs
   have h250 := joinX_inl h249
   refine kb 1 ?_
   refine kR ?_
   refine kC 8 [0,1,4] ?_
   refine kE ?_
   refine PJ.blockNormal ?_
   obtain rfl := oi h250
   exact kLN [0, 1, 4]
 ·refine kSR ?_
  refine kC 5 [0,1,4,5] ?_
  refine kEN ?_
  obtain ⟨s438, hy440, h442⟩ := bindS h137
  refine K.cutN (by kernel_rfl) (fun (s438 : Int) => ([(0, .ptr 0 0), (4, .str ([] : List UInt8)), (5, .int .i64 s438)], [.box [.str x0, .int .i64 s133]])) s438 ?_ ?_
  ·refine kb 2 ?_
   refine kl (fun (s443 : Int) => ([(0, .ptr 0 0), (1, .fn (.func 55) [] []), (4, .str ([] : List UInt8)), (5, .int .i64 s443)], [.box [.str x0, .int .i64 s133]])) hy440 [0, 1, 4, 5] (fun s443 x555 hs554 => ?_)
   obtain ⟨y582, hy583, h584⟩ := bindS hs554
   refine K.cutX (by kernel_rfl) (fun (s581 : Unit) => ([(0, .ptr 0 0), (1, .fn (.func 55) [] []), (4, .str ([] : List UInt8)), (5, .int .i64 s443)], [.box [.str x0, .int .i64 s133]])) y582 ?_ (fun s581 hs => ?_)
   ·obtain ⟨s593, hy595, h597⟩ := bindS hy583
    refine K.cutN (by kernel_rfl) (fun (s593 : Bool) => ([(0, .ptr 0 0), (1, .fn (.func 55) [] []), (4, .str ([] : List UInt8)), (5, .int .i64 s443), (55, .bool s593)], [.box [.str x0, .int .i64 s133]])) s593 ?_ ?_
    ·refine kR ?_
     refine kC 8 [0,1,4,5,46] ?_
     refine kB 46 hy595 (fun h599 => ?_) (fun h600 => ?_)
     ·refine kC 6 [0,1,4,5,46,47,51,52] ?_
      obtain ⟨hm, h601⟩ := asrt h599
      refine kG 53 hm ?_
      obtain ⟨y602, hy603, h604⟩ := bindS h601
      refine kA 54 (rule_reader__word_1_ok hy603) ?_
      refine kC 1 [0,1,4,5,55] ?_
      refine kE ?_
      obtain rfl := oi h604
      exact kN [0, 1, 4, 5, 55]
     ·refine kC 9 [0,1,4,5,55] ?_
      refine kE ?_
      obtain rfl := oi h600
      exact kN [0, 1, 4, 5, 55]
    ·refine kBJ 55 h597 (fun h606 => ?_) (fun h607 => ?_)
     ·refine kT ?_
      refine kK ?_
      obtain rfl := oi h606
      exact kXl [0, 1, 4, 5]
     ·refine kF ?_
      refine K.exit 2 (by kernel_rfl) ?_
      obtain rfl := oi h607
      have h608 := joinX_inr h584
      refine PJ.cutXr (fun e => nomatch e) ?_
      obtain rfl := oi h608
      refine PJ.loopOut (fun e => nomatch e) (fun he610 => ?_)
      have h609 := congrArg some he610
      refine PJ.blockOut ?_
      obtain rfl := oi h609
      exact kN [0, 4, 5]
   ·subst hs
    have h585 := joinX_inl h584
    refine kb 3 ?_
    refine kR ?_
    refine kC 3 [0,1,4,5] ?_
    refine kE ?_
    refine PJ.blockNormal ?_
    obtain rfl := oi h585
    exact kLN [0, 1, 4, 5]
  ·refine kS ?_
   refine J.keep [0, 4, 5] (L2 := [(0, .ptr 0 0), (4, .str ([] : List UInt8)), (5, .int .i64 s438)]) (by kernel_rfl) ?_
   refine K.draw (by kernel_rfl) (by kernel_rfl) (by kernel_rfl) (H2 := [.box [.str x0, .int .i64 s133]]) (by kernel_rfl) (n := 1) (by kernel_rfl) ?_
   refine kD 9 ?_
   obtain ⟨hm, h611⟩ := asrt h442
   refine kQ 67 (.str (cut x0 s133 s438)) [] (tr2 := [([], []), ([], []), ([], []), ([0, 1], []), ([], []), ([], []), ([], []), ([0, 1], []), ([], []), ([], [])]) hm ?_
   refine kD 1 ?_
   refine kEN ?_
   refine kX ?_
   obtain rfl := oi h611
   exact kV [0] hFn hFH hFD (v1 := .str (cut x0 s133 s438))
def rule_reader__word_s0 (x0 : List UInt8) (x1 : Int) : Option ((List UInt8) × Int) :=
 (Option.bind (rule_reader__run_s0 x0 x1) fun y1 => (some (y1.1, y1.2)))
theorem rule_reader__word_s0_ok {x0 : List UInt8} {x1 : Int} {r : (List UInt8) × Int} (h : rule_reader__word_s0 x0 x1 = some r) : SC Tryd.prog 42 [.ptr 0 0] [.box [.str x0, .int .i64 x1]] (.str r.1) [.box [.str x0, .int .i64 r.2]] := by
 refine kFn (fn := Tryd.f42) (fun F hFn hFH hFD => ?_)
 unfold rule_reader__word_s0 at h
 refine kSR ?_
 refine kC 1 [0,2] ?_
 refine kEN ?_
 refine kSR ?_
 refine kC 1 [2,3] ?_
 obtain ⟨y1, hy2, h3⟩ := bindS h
 refine kCG (some 4) (args := [.ptr 0 0, .fn (.func 55) [] []]) (v := .str y1.1) (H2 := [.box [.str x0, .int .i64 y1.2]]) [0] (rule_reader__run_s0_ok hy2) ?_
 refine kC 1 [2] ?_
 refine kEN ?_
 refine kX ?_
 obtain rfl := oi h3
 exact kV [0] hFn hFH hFD (v1 := .str y1.1)
def idxRen : Go.Shelf.Ren := ⟨fun x => match x with | 217 => 99 | 266 => 109 | n => n, fun x => x, fun x => x⟩
theorem idx_lays : Lays.n217 Tryd.prog idxRen := by
 constructor <;> first | kernel_rfl | (intro w; kernel_rfl) | (intro w; rfl)
def stringslite_IndexByte (x0 : List UInt8) (x1 : Int) : Option (Int) :=
 (some (Lib.indexByte x0 x1.toNat.toUInt8))
theorem stringslite_IndexByte_ok {x0 : List UInt8} {x1 : Int} {r : Int} (h : stringslite_IndexByte x0 x1 = some r) : SC Tryd.prog 99 [.str x0, .int .u8 x1] [] (.int .i64 r) [] := by
 obtain rfl := oi h
 exact SC.byteIdx (by kernel_rfl) (fun b c w => Any.stringslite_IndexByte idx_lays b c w)
def stringslite_Index (x0 : List UInt8) (x1 : List UInt8) : Option (Int) :=
 (Option.bind (bif (decide ((x1.length : Int) = 0)) then (some true) else (some (x1 == x0))) fun (s4 : Bool) => (bif s4 then (some 0) else (bif (decide ((x1.length : Int) = 1)) then (bif inR 0 x1.length then (Option.bind (stringslite_IndexByte x0 ((((x1.getD (0 : Int).toNat 0).toNat : Nat) : Int))) fun y19 => (some y19)) else none) else (bif (decide ((x1.length : Int) ≥ (x0.length : Int))) then (some (-1)) else none))))
theorem stringslite_Index_ok {x0 : List UInt8} {x1 : List UInt8} {r : Int} (h : stringslite_Index x0 x1 = some r) : SC Tryd.prog 91 [.str x0, .str x1] [] (.int .i64 r) [] := by
 refine kFn (fn := Tryd.f91) (fun F hFn hFH hFD => ?_)
 unfold stringslite_Index at h
 refine kSR ?_
 refine kC 1 [0,1,4] ?_
 refine kEN ?_
 refine kSR ?_
 refine kC 3 [0,1,4,5] ?_
 refine kEN ?_
 refine kS ?_
 refine kb 0 ?_
 obtain ⟨s4, hy6, h8⟩ := bindS h
 refine K.cutN (by kernel_rfl) (fun (s4 : Bool) => ([(0, .str x0), (1, .str x1), (4, .int .i64 0), (5, .int .i64 (x1.length : Int)), (16, .bool s4)], [])) s4 ?_ ?_
 ·refine kR ?_
  refine kC 3 [0,1,4,5,19] ?_
  refine kB 19 hy6 (fun h10 => ?_) (fun h11 => ?_)
  ·refine kC 5 [0,1,4,5,16] ?_
   refine kE ?_
   obtain rfl := oi h10
   exact kN [0, 1, 4, 5, 16]
  ·refine kC 5 [0,1,4,5,16] ?_
   refine kE ?_
   obtain rfl := oi h11
   exact kN [0, 1, 4, 5, 16]
 ·refine kBJ 16 h8 (fun h13 => ?_) (fun h14 => ?_)
  ·refine kT ?_
   refine kSR ?_
   refine kC 1 [0,1,4,5] ?_
   refine kEN ?_
   refine kX ?_
   refine PJ.blockRet ?_
   refine PJ.passRet ?_
   obtain rfl := oi h13
   exact kZ hFn hFH hFD
  ·refine kF ?_
   refine kSR ?_
   refine kC 3 [0,1,4,5,24] ?_
   refine kEN ?_
   refine kBJ 24 h14 (fun h16 => ?_) (fun h17 => ?_)
   ·refine kT ?_
    refine kSR ?_
    refine kC 2 [0,1,4,5,27,28] ?_
    obtain ⟨hm, h18⟩ := asrt h16
    refine kG 29 hm ?_
    obtain ⟨y19, hy20, h21⟩ := bindS h18
    refine kA 30 (stringslite_IndexByte_ok hy20) ?_
    refine kC 1 [0,1,4,5] ?_
    refine kEN ?_
    refine kX ?_
    refine PJ.blockRet ?_
    refine PJ.passRet ?_
    obtain rfl := oi h21
    exact kZ hFn hFH hFD
   ·refine kF ?_
    refine kSR ?_
    refine kC 5 [0,1,4,5,31] ?_
    refine kEN ?_
    refine kBJ 31 h17 (fun h23 => ?_) (fun h24 => ?_)
    ·refine kT ?_
     refine kSR ?_
     refine kC 1 [0,1,4,5] ?_
     refine kEN ?_
     refine kX ?_
     refine PJ.blockRet ?_
     refine PJ.passRet ?_
     obtain rfl := oi h23
     exact kZ hFn hFH hFD
    ·refine kF ?_
     refine kSR ?_
     cases h24
def strings_Index (x0 : List UInt8) (x1 : List UInt8) : Option (Int) :=
 (Option.bind (stringslite_Index x0 x1) fun y1 => (some y1))
theorem strings_Index_ok {x0 : List UInt8} {x1 : List UInt8} {r : Int} (h : strings_Index x0 x1 = some r) : SC Tryd.prog 76 [.str x0, .str x1] [] (.int .i64 r) [] := by
 refine kFn (fn := Tryd.f76) (fun F hFn hFH hFD => ?_)
 unfold strings_Index at h
 refine kSR ?_
 refine kC 1 [0,1,4] ?_
 refine kEN ?_
 refine kSR ?_
 refine kC 2 [4,5,6] ?_
 obtain ⟨y1, hy2, h3⟩ := bindS h
 refine kA 7 (stringslite_Index_ok hy2) ?_
 refine kC 1 [4] ?_
 refine kEN ?_
 refine kX ?_
 obtain rfl := oi h3
 exact kZ hFn hFH hFD
def strings_Contains (x0 : List UInt8) (x1 : List UInt8) : Option (Bool) :=
 (Option.bind (strings_Index x0 x1) fun y1 => (some (decide (y1 ≥ 0))))
theorem strings_Contains_ok {x0 : List UInt8} {x1 : List UInt8} {r : Bool} (h : strings_Contains x0 x1 = some r) : SC Tryd.prog 65 [.str x0, .str x1] [] (.bool r) [] := by
 refine kFn (fn := Tryd.f65) (fun F hFn hFH hFD => ?_)
 unfold strings_Contains at h
 refine kSR ?_
 refine kC 1 [0,1,4] ?_
 refine kEN ?_
 refine kSR ?_
 refine kC 2 [4,5,6] ?_
 obtain ⟨y1, hy2, h3⟩ := bindS h
 refine kA 7 (strings_Index_ok hy2) ?_
 refine kC 2 [4] ?_
 refine kEN ?_
 refine kX ?_
 obtain rfl := oi h3
 exact kZ hFn hFH hFD
def rule_reader__operand_s0 (x0 : List UInt8) (x1 : Int) (x2 : Int) (x3 : Int) (x4 : Bool) : Option (Bool × Int × Int) :=
 (Option.bind (rule_reader__word_s0 x0 x1) fun y1 => (Option.bind (Option.bind (bif (decide (¬ (y1.1.length : Int) = 1)) then (some true) else (Option.bind (strings_Contains ([110, 105, 118, 119, 102, 116, 99, 101] : List UInt8) y1.1) fun y44 => (some (!y44)))) fun (s36 : Bool) => (bif s36 then (some (.inr (false, y1.2, x2))) else (some (.inl ())))) (joinX fun (s25 : Unit) => (bif inR 0 y1.1.length then (some (true, (IntKind.wrap .i64 (y1.2 + 1)), (((y1.1.getD (0 : Int).toNat 0).toNat : Nat) : Int))) else none))))
theorem rule_reader__operand_s0_ok {x0 : List UInt8} {x1 : Int} {x2 : Int} {x3 : Int} {x4 : Bool} {r : Bool × Int × Int} (h : rule_reader__operand_s0 x0 x1 x2 x3 x4 = some r) : SC Tryd.prog 50 [.ptr 0 0, .ptr 1 0] [.box [.str x0, .int .i64 x1], .box [.int .u8 x2, .int .i64 x3, .bool x4, .nl]] (.bool r.1) [.box [.str x0, .int .i64 r.2.1], .box [.int .u8 r.2.2, .int .i64 x3, .bool x4, .nl]] := by
 refine kFn (fn := Tryd.f50) (fun F hFn hFH hFD => ?_)
 unfold rule_reader__operand_s0 at h
 refine kSR ?_
 refine kC 1 [0,1,4] ?_
 refine kEN ?_
 refine kSR ?_
 refine kC 1 [0,1,4,6] ?_
 obtain ⟨y1, hy2, h3⟩ := bindS h
 refine kCG (some 7) (args := [.ptr 0 0]) (v := .str y1.1) (H2 := [.box [.str x0, .int .i64 y1.2], .box [.int .u8 x2, .int .i64 x3, .bool x4, .nl]]) [0] (rule_reader__word_s0_ok hy2) ?_
 refine kC 1 [0,1,4,5] ?_
 refine kEN ?_
 obtain ⟨y26, hy27, h28⟩ := bindS h3
 refine K.cutX (by kernel_rfl) (fun (s25 : Unit) => ([(0, .ptr 0 0), (1, .ptr 1 0), (4, .bool false), (5, .str y1.1)], [.box [.str x0, .int .i64 y1.2], .box [.int .u8 x2, .int .i64 x3, .bool x4, .nl]])) y26 ?_ (fun s25 hs => ?_)
 ·obtain ⟨s36, hy38, h40⟩ := bindS hy27
  refine K.cutN (by kernel_rfl) (fun (s36 : Bool) => ([(0, .ptr 0 0), (1, .ptr 1 0), (4, .bool false), (5, .str y1.1), (15, .bool s36)], [.box [.str x0, .int .i64 y1.2], .box [.int .u8 x2, .int .i64 x3, .bool x4, .nl]])) s36 ?_ ?_
  ·refine kR ?_
   refine kC 4 [0,1,4,5,11] ?_
   refine kB 11 hy38 (fun h42 => ?_) (fun h43 => ?_)
   ·refine kC 4 [0,1,4,5,15] ?_
    refine kE ?_
    obtain rfl := oi h42
    exact kN [0, 1, 4, 5, 15]
   ·refine kC 1 [0,1,4,5,11,12] ?_
    obtain ⟨y44, hy45, h46⟩ := bindS h43
    refine kA 13 (strings_Contains_ok hy45) ?_
    refine kC 2 [0,1,4,5,15] ?_
    refine kE ?_
    obtain rfl := oi h46
    exact kN [0, 1, 4, 5, 15]
  ·refine kBJ 15 h40 (fun h48 => ?_) (fun h49 => ?_)
   ·refine kT ?_
    refine kSR ?_
    refine kC 1 [0,1,4,5] ?_
    refine kEN ?_
    refine kX ?_
    obtain rfl := oi h48
    have h50 := joinX_inr h28
    refine PJ.cutXr (fun e => nomatch e) ?_
    obtain rfl := oi h50
    exact kV [0, 1] hFn hFH hFD (v1 := .bool false)
   ·refine kF ?_
    refine kK ?_
    obtain rfl := oi h49
    exact kXl [0, 1, 4, 5]
 ·subst hs
  have h29 := joinX_inl h28
  refine kSR ?_
  refine kC 2 [0,4,16,17] ?_
  obtain ⟨hm, h51⟩ := asrt h29
  refine kG 18 hm ?_
  refine kC 3 [0,4] ?_
  refine kEN ?_
  refine kSR ?_
  refine kC 8 [4] ?_
  refine kEN ?_
  refine kSR ?_
  refine kC 1 [4] ?_
  refine kEN ?_
  refine kX ?_
  obtain rfl := oi h51
  exact kV [0, 1] hFn hFH hFD (v1 := .bool true)
def rule_reader__eat_1 (x0 : Int) : Option (Bool) :=
 (some false)
theorem rule_reader__eat_1_ok {x0 : Int} {r : Bool} (h : rule_reader__eat_1 x0 = some r) : SC Tryd.prog 77 [.int .u8 x0] [] (.bool r) [] := by
 refine kFn (fn := Tryd.f77) (fun F hFn hFH hFD => ?_)
 unfold rule_reader__eat_1 at h
 refine kSR ?_
 refine kC 1 [2] ?_
 refine kEN ?_
 refine kSR ?_
 refine kC 1 [2] ?_
 refine kEN ?_
 refine kX ?_
 obtain rfl := oi h
 exact kZ hFn hFH hFD
def rule_reader__run_s1 (x0 : List UInt8) (x1 : Int) : Option ((List UInt8) × Int) :=
 (Option.bind (loopN (fun (s138 : Int) => (Option.bind (Option.bind (bif (decide (s138 < (x0.length : Int))) then (bif inR s138 x0.length then (some ((decide (((((x0.getD (s138 : Int).toNat 0).toNat : Nat) : Int)) = 32)))) else none) else (some false)) fun (s255 : Bool) => (bif s255 then (some (.inl ())) else (some (.inr (.inr s138))))) (joinX fun (s246 : Unit) => (some (.inl (IntKind.wrap .i64 (s138 + 1))))))) big x1) fun (s133 : Int) => (Option.bind (loopN (fun (s443 : Int) => (Option.bind (Option.bind (bif (decide (s443 < (x0.length : Int))) then (bif inR s443 x0.length then (Option.bind (rule_reader__eat_1 ((((x0.getD (s443 : Int).toNat 0).toNat : Nat) : Int))) fun y602 => (some y602)) else none) else (some false)) fun (s593 : Bool) => (bif s593 then (some (.inl ())) else (some (.inr (.inr s443))))) (joinX fun (s581 : Unit) => (some (.inl (IntKind.wrap .i64 (s443 + 1))))))) big s133) fun (s438 : Int) => (bif inS s133 s438 x0.length then (some ((cut x0 s133 s438), s133)) else none)))
theorem rule_reader__run_s1_ok {x0 : List UInt8} {x1 : Int} {r : (List UInt8) × Int} (h : rule_reader__run_s1 x0 x1 = some r) : SC Tryd.prog 54 [.ptr 0 0, .fn (.func 77) [] []] [.box [.str x0, .int .i64 x1]] (.str r.1) [.box [.str x0, .int .i64 r.2]] := by
 refine kFn (fn := Tryd.f54) (fun F hFn hFH hFD => ?_)
 unfold rule_reader__run_s1 at h
 refine kSR ?_
 refine kC 1 [0,1,4] ?_
 refine kEN ?_
 obtain ⟨s133, hy135, h137⟩ := bindS h
 refine K.cutN (by kernel_rfl) (fun (s133 : Int) => ([(0, .ptr 0 0), (1, .fn (.func 77) [] []), (4, .str ([] : List UInt8))], [.box [.str x0, .int .i64 s133]])) s133 ?_ ?_
 ·refine kb 0 ?_
  refine kl (fun (s138 : Int) => ([(0, .ptr 0 0), (1, .fn (.func 77) [] []), (4, .str ([] : List UInt8))], [.box [.str x0, .int .i64 s138]])) hy135 [0, 1, 4] (fun s138 x226 hs225 => ?_)
  obtain ⟨y247, hy248, h249⟩ := bindS hs225
  refine K.cutX (by kernel_rfl) (fun (s246 : Unit) => ([(0, .ptr 0 0), (1, .fn (.func 77) [] []), (4, .str ([] : List UInt8))], [.box [.str x0, .int .i64 s138]])) y247 ?_ (fun s246 hs => ?_)
  ·obtain ⟨s255, hy257, h259⟩ := bindS hy248
   refine K.cutN (by kernel_rfl) (fun (s255 : Bool) => ([(0, .ptr 0 0), (1, .fn (.func 77) [] []), (4, .str ([] : List UInt8)), (27, .bool s255)], [.box [.str x0, .int .i64 s138]])) s255 ?_ ?_
   ·refine J.keep [0, 1, 4] (L2 := [(0, .ptr 0 0), (1, .fn (.func 77) [] []), (4, .str ([] : List UInt8))]) (by kernel_rfl) ?_
    refine K.draw (by kernel_rfl) (by kernel_rfl) (by kernel_rfl) (H2 := [.box [.str x0, .int .i64 s138]]) (by kernel_rfl) (n := 1) (by kernel_rfl) ?_
    refine kD 11 ?_
    refine kB 16 hy257 (fun h261 => ?_) (fun h262 => ?_)
    ·refine kD 8 ?_
     obtain ⟨hm, h263⟩ := asrt h261
     refine kQ 25 (.int .u8 (((x0.getD (s138 : Int).toNat 0).toNat : Nat) : Int)) [] (tr2 := [([], []), ([], []), ([], []), ([0, 1], []), ([], []), ([], []), ([], []), ([0, 1], []), ([], []), ([], []), ([], []), ([], []), ([], []), ([], []), ([0, 1], []), ([], []), ([], []), ([], []), ([0, 1], []), ([], [])]) hm ?_
     refine kD 2 ?_
     refine kE ?_
     obtain rfl := oi h263
     exact kN [0, 1, 4, 27]
    ·refine kD 11 ?_
     refine kE ?_
     obtain rfl := oi h262
     exact kN [0, 1, 4, 27]
   ·refine kBJ 27 h259 (fun h265 => ?_) (fun h266 => ?_)
    ·refine kT ?_
     refine kK ?_
     obtain rfl := oi h265
     exact kXl [0, 1, 4]
    ·refine kF ?_
     refine K.exit 0 (by kernel_rfl) ?_
     obtain rfl := oi h266
     have h267 := joinX_inr h249
     refine PJ.cutXr (fun e => nomatch e) ?_
     obtain rfl := oi h267
     refine PJ.loopOut (fun e => nomatch e) (fun he269 => ?_)
     have h268 := congrArg some he269
     refine PJ.blockOut ?_
     obtain rfl := oi h268
     exact kN [0, 1, 4]
  ·subst hs
   have h250 := joinX_inl h249
   refine kb 1 ?_
   refine kR ?_
   refine kC 8 [0,1,4] ?_
   refine kE ?_
   refine PJ.blockNormal ?_
   obtain rfl := oi h250
   exact kLN [0, 1, 4]
 ·refine kSR ?_
  refine kC 5 [0,1,4,5] ?_
  refine kEN ?_
  obtain ⟨s438, hy440, h442⟩ := bindS h137
  refine K.cutN (by kernel_rfl) (fun (s438 : Int) => ([(0, .ptr 0 0), (4, .str ([] : List UInt8)), (5, .int .i64 s438)], [.box [.str x0, .int .i64 s133]])) s438 ?_ ?_
  ·refine kb 2 ?_
   refine kl (fun (s443 : Int) => ([(0, .ptr 0 0), (1, .fn (.func 77) [] []), (4, .str ([] : List UInt8)), (5, .int .i64 s443)], [.box [.str x0, .int .i64 s133]])) hy440 [0, 1, 4, 5] (fun s443 x555 hs554 => ?_)
   obtain ⟨y582, hy583, h584⟩ := bindS hs554
   refine K.cutX (by kernel_rfl) (fun (s581 : Unit) => ([(0, .ptr 0 0), (1, .fn (.func 77) [] []), (4, .str ([] : List UInt8)), (5, .int .i64 s443)], [.box [.str x0, .int .i64 s133]])) y582 ?_ (fun s581 hs => ?_)
   ·obtain ⟨s593, hy595, h597⟩ := bindS hy583
    refine K.cutN (by kernel_rfl) (fun (s593 : Bool) => ([(0, .ptr 0 0), (1, .fn (.func 77) [] []), (4, .str ([] : List UInt8)), (5, .int .i64 s443), (55, .bool s593)], [.box [.str x0, .int .i64 s133]])) s593 ?_ ?_
    ·refine kR ?_
     refine kC 8 [0,1,4,5,46] ?_
     refine kB 46 hy595 (fun h599 => ?_) (fun h600 => ?_)
     ·refine kC 6 [0,1,4,5,46,47,51,52] ?_
      obtain ⟨hm, h601⟩ := asrt h599
      refine kG 53 hm ?_
      obtain ⟨y602, hy603, h604⟩ := bindS h601
      refine kA 54 (rule_reader__eat_1_ok hy603) ?_
      refine kC 1 [0,1,4,5,55] ?_
      refine kE ?_
      obtain rfl := oi h604
      exact kN [0, 1, 4, 5, 55]
     ·refine kC 9 [0,1,4,5,55] ?_
      refine kE ?_
      obtain rfl := oi h600
      exact kN [0, 1, 4, 5, 55]
    ·refine kBJ 55 h597 (fun h606 => ?_) (fun h607 => ?_)
     ·refine kT ?_
      refine kK ?_
      obtain rfl := oi h606
      exact kXl [0, 1, 4, 5]
     ·refine kF ?_
      refine K.exit 2 (by kernel_rfl) ?_
      obtain rfl := oi h607
      have h608 := joinX_inr h584
      refine PJ.cutXr (fun e => nomatch e) ?_
      obtain rfl := oi h608
      refine PJ.loopOut (fun e => nomatch e) (fun he610 => ?_)
      have h609 := congrArg some he610
      refine PJ.blockOut ?_
      obtain rfl := oi h609
      exact kN [0, 4, 5]
   ·subst hs
    have h585 := joinX_inl h584
    refine kb 3 ?_
    refine kR ?_
    refine kC 3 [0,1,4,5] ?_
    refine kE ?_
    refine PJ.blockNormal ?_
    obtain rfl := oi h585
    exact kLN [0, 1, 4, 5]
  ·refine kS ?_
   refine J.keep [0, 4, 5] (L2 := [(0, .ptr 0 0), (4, .str ([] : List UInt8)), (5, .int .i64 s438)]) (by kernel_rfl) ?_
   refine K.draw (by kernel_rfl) (by kernel_rfl) (by kernel_rfl) (H2 := [.box [.str x0, .int .i64 s133]]) (by kernel_rfl) (n := 1) (by kernel_rfl) ?_
   refine kD 9 ?_
   obtain ⟨hm, h611⟩ := asrt h442
   refine kQ 67 (.str (cut x0 s133 s438)) [] (tr2 := [([], []), ([], []), ([], []), ([0, 1], []), ([], []), ([], []), ([], []), ([0, 1], []), ([], []), ([], [])]) hm ?_
   refine kD 1 ?_
   refine kEN ?_
   refine kX ?_
   obtain rfl := oi h611
   exact kV [0] hFn hFH hFD (v1 := .str (cut x0 s133 s438))
def stringslite_HasPrefix (x0 : List UInt8) (x1 : List UInt8) : Option (Bool) :=
 (Option.bind (bif (decide ((x0.length : Int) ≥ (x1.length : Int))) then (bif inS 0 (x1.length : Int) x0.length then (some (((cut x0 0 (x1.length : Int)) == x1))) else none) else (some false)) fun (s5 : Bool) => (some s5))
theorem stringslite_HasPrefix_ok {x0 : List UInt8} {x1 : List UInt8} {r : Bool} (h : stringslite_HasPrefix x0 x1 = some r) : SC Tryd.prog 92 [.str x0, .str x1] [] (.bool r) [] := by
 refine kFn (fn := Tryd.f92) (fun F hFn hFH hFD => ?_)
 unfold stringslite_HasPrefix at h
 refine kSR ?_
 refine kC 1 [0,1,4] ?_
 refine kEN ?_
 obtain ⟨s5, hy7, h9⟩ := bindS h
 refine K.cutN (by kernel_rfl) (fun (s5 : Bool) => ([(4, .bool s5)], [])) s5 ?_ ?_
 ·refine kR ?_
  refine kC 6 [0,1,4,10] ?_
  refine kB 10 hy7 (fun h11 => ?_) (fun h12 => ?_)
  ·refine kC 3 [1,4,10,11,13] ?_
   obtain ⟨hm, h13⟩ := asrt h11
   refine kQ 14 (.str (cut x0 0 (x1.length : Int))) [] (tr2 := []) hm ?_
   refine kC 4 [4] ?_
   refine kE ?_
   obtain rfl := oi h13
   exact kN [4]
  ·refine kC 8 [4] ?_
   refine kE ?_
   obtain rfl := oi h12
   exact kN [4]
 ·refine kX ?_
  obtain rfl := oi h9
  exact kZ hFn hFH hFD
def strings_HasPrefix (x0 : List UInt8) (x1 : List UInt8) : Option (Bool) :=
 (Option.bind (stringslite_HasPrefix x0 x1) fun y1 => (some y1))
theorem strings_HasPrefix_ok {x0 : List UInt8} {x1 : List UInt8} {r : Bool} (h : strings_HasPrefix x0 x1 = some r) : SC Tryd.prog 78 [.str x0, .str x1] [] (.bool r) [] := by
 refine kFn (fn := Tryd.f78) (fun F hFn hFH hFD => ?_)
 unfold strings_HasPrefix at h
 refine kSR ?_
 refine kC 1 [0,1,4] ?_
 refine kEN ?_
 refine kSR ?_
 refine kC 2 [4,5,6] ?_
 obtain ⟨y1, hy2, h3⟩ := bindS h
 refine kA 7 (stringslite_HasPrefix_ok hy2) ?_
 refine kC 1 [4] ?_
 refine kEN ?_
 refine kX ?_
 obtain rfl := oi h3
 exact kZ hFn hFH hFD
def rule_reader__eat_s0 (x0 : List UInt8) (x1 : List UInt8) (x2 : Int) : Option (Bool × Int) :=
 (Option.bind (rule_reader__run_s1 x1 x2) fun y1 => (bif inS y1.2 (x1.length : Int) x1.length then (Option.bind (strings_HasPrefix (cut x1 y1.2 (x1.length : Int)) x0) fun y5 => (bif (!y5) then (some (false, y1.2)) else (some (true, (IntKind.wrap .i64 (y1.2 + (x0.length : Int))))))) else none))
theorem rule_reader__eat_s0_ok {x0 : List UInt8} {x1 : List UInt8} {x2 : Int} {r : Bool × Int} (h : rule_reader__eat_s0 x0 x1 x2 = some r) : SC Tryd.prog 66 [.ptr 0 0, .str x0] [.box [.str x1, .int .i64 x2]] (.bool r.1) [.box [.str x1, .int .i64 r.2]] := by
 refine kFn (fn := Tryd.f66) (fun F hFn hFH hFD => ?_)
 unfold rule_reader__eat_s0 at h
 refine kSR ?_
 refine kC 1 [0,1,4] ?_
 refine kEN ?_
 refine kSR ?_
 refine kC 1 [0,1,4,5] ?_
 obtain ⟨y1, hy2, h3⟩ := bindS h
 refine kCG (some 6) (args := [.ptr 0 0, .fn (.func 77) [] []]) (v := .str y1.1) (H2 := [.box [.str x1, .int .i64 y1.2]]) [0] (rule_reader__run_s1_ok hy2) ?_
 refine kEN ?_
 refine kS ?_
 refine kS ?_
 refine J.keep [0, 1, 4] (L2 := [(0, .ptr 0 0), (1, .str x0), (4, .bool false)]) (by kernel_rfl) ?_
 refine K.draw (by kernel_rfl) (by kernel_rfl) (by kernel_rfl) (H2 := [.box [.str x1, .int .i64 y1.2], .res]) (by kernel_rfl) (n := 1) (by kernel_rfl) ?_
 refine kD 8 ?_
 obtain ⟨hm, h4⟩ := asrt h3
 refine kQ 15 (.str (cut x1 y1.2 (x1.length : Int))) [] (tr2 := [([], []), ([], []), ([], []), ([0, 1], []), ([], []), ([], []), ([], []), ([0, 1], []), ([], [])]) hm ?_
 refine kD 1 ?_
 obtain ⟨y5, hy6, h7⟩ := bindS h4
 refine RJ.call0 (d := (some 17)) (f := 78) (args := [.str (cut x1 y1.2 (x1.length : Int)), .str x0]) (v := .bool y5) (tr2 := [([], []), ([], []), ([], []), ([0, 1], []), ([], []), ([], []), ([], []), ([0, 1], []), ([], []), ([], []), ([], [2, 3])]) (by kernel_rfl) (by kernel_rfl) (.cons (Le.refl _) (.cons (Le.refl _) .nil)) (strings_HasPrefix_ok hy6) (by kernel_rfl) ?_
 refine kD 1 ?_
 refine kEN ?_
 refine kBJ 18 h7 (fun h9 => ?_) (fun h10 => ?_)
 ·refine kT ?_
  refine kSR ?_
  refine kC 1 [0,1,4] ?_
  refine kEN ?_
  refine kX ?_
  refine PJ.passRet ?_
  obtain rfl := oi h9
  exact kV [0] hFn hFH hFD (v1 := .bool false)
 ·refine kF ?_
  refine kK ?_
  refine PJ.next ?_
  refine kSR ?_
  refine kC 10 [4] ?_
  refine kEN ?_
  refine kSR ?_
  refine kC 1 [4] ?_
  refine kEN ?_
  refine kX ?_
  obtain rfl := oi h10
  exact kV [0] hFn hFH hFD (v1 := .bool true)
def rule_reader__number_1 (x0 : Int) : Option (Bool) :=
 (Option.bind (bif (decide (48 ≤ x0)) then (some (decide (x0 ≤ 57))) else (some false)) fun (s4 : Bool) => (some s4))
theorem rule_reader__number_1_ok {x0 : Int} {r : Bool} (h : rule_reader__number_1 x0 = some r) : SC Tryd.prog 79 [.int .u8 x0] [] (.bool r) [] := by
 refine kFn (fn := Tryd.f79) (fun F hFn hFH hFD => ?_)
 unfold rule_reader__number_1 at h
 refine kSR ?_
 refine kC 1 [0,2] ?_
 refine kEN ?_
 obtain ⟨s4, hy6, h8⟩ := bindS h
 refine K.cutN (by kernel_rfl) (fun (s4 : Bool) => ([(2, .bool s4)], [])) s4 ?_ ?_
 ·refine kR ?_
  refine kC 3 [0,2,5] ?_
  refine kB 5 hy6 (fun h10 => ?_) (fun h11 => ?_)
  ·refine kC 4 [2] ?_
   refine kE ?_
   obtain rfl := oi h10
   exact kN [2]
  ·refine kC 4 [2] ?_
   refine kE ?_
   obtain rfl := oi h11
   exact kN [2]
 ·refine kX ?_
  obtain rfl := oi h8
  exact kZ hFn hFH hFD
def rule_reader__run_s2 (x0 : List UInt8) (x1 : Int) : Option ((List UInt8) × Int) :=
 (Option.bind (loopN (fun (s138 : Int) => (Option.bind (Option.bind (bif (decide (s138 < (x0.length : Int))) then (bif inR s138 x0.length then (some ((decide (((((x0.getD (s138 : Int).toNat 0).toNat : Nat) : Int)) = 32)))) else none) else (some false)) fun (s255 : Bool) => (bif s255 then (some (.inl ())) else (some (.inr (.inr s138))))) (joinX fun (s246 : Unit) => (some (.inl (IntKind.wrap .i64 (s138 + 1))))))) big x1) fun (s133 : Int) => (Option.bind (loopN (fun (s443 : Int) => (Option.bind (Option.bind (bif (decide (s443 < (x0.length : Int))) then (bif inR s443 x0.length then (Option.bind (rule_reader__number_1 ((((x0.getD (s443 : Int).toNat 0).toNat : Nat) : Int))) fun y602 => (some y602)) else none) else (some false)) fun (s593 : Bool) => (bif s593 then (some (.inl ())) else (some (.inr (.inr s443))))) (joinX fun (s581 : Unit) => (some (.inl (IntKind.wrap .i64 (s443 + 1))))))) big s133) fun (s438 : Int) => (bif inS s133 s438 x0.length then (some ((cut x0 s133 s438), s133)) else none)))
theorem rule_reader__run_s2_ok {x0 : List UInt8} {x1 : Int} {r : (List UInt8) × Int} (h : rule_reader__run_s2 x0 x1 = some r) : SC Tryd.prog 54 [.ptr 0 0, .fn (.func 79) [] []] [.box [.str x0, .int .i64 x1]] (.str r.1) [.box [.str x0, .int .i64 r.2]] := by
 refine kFn (fn := Tryd.f54) (fun F hFn hFH hFD => ?_)
 unfold rule_reader__run_s2 at h
 refine kSR ?_
 refine kC 1 [0,1,4] ?_
 refine kEN ?_
 obtain ⟨s133, hy135, h137⟩ := bindS h
 refine K.cutN (by kernel_rfl) (fun (s133 : Int) => ([(0, .ptr 0 0), (1, .fn (.func 79) [] []), (4, .str ([] : List UInt8))], [.box [.str x0, .int .i64 s133]])) s133 ?_ ?_
 ·refine kb 0 ?_
  refine kl (fun (s138 : Int) => ([(0, .ptr 0 0), (1, .fn (.func 79) [] []), (4, .str ([] : List UInt8))], [.box [.str x0, .int .i64 s138]])) hy135 [0, 1, 4] (fun s138 x226 hs225 => ?_)
  obtain ⟨y247, hy248, h249⟩ := bindS hs225
  refine K.cutX (by kernel_rfl) (fun (s246 : Unit) => ([(0, .ptr 0 0), (1, .fn (.func 79) [] []), (4, .str ([] : List UInt8))], [.box [.str x0, .int .i64 s138]])) y247 ?_ (fun s246 hs => ?_)
  ·obtain ⟨s255, hy257, h259⟩ := bindS hy248
   refine K.cutN (by kernel_rfl) (fun (s255 : Bool) => ([(0, .ptr 0 0), (1, .fn (.func 79) [] []), (4, .str ([] : List UInt8)), (27, .bool s255)], [.box [.str x0, .int .i64 s138]])) s255 ?_ ?_
   ·refine J.keep [0, 1, 4] (L2 := [(0, .ptr 0 0), (1, .fn (.func 79) [] []), (4, .str ([] : List UInt8))]) (by kernel_rfl) ?_
    refine K.draw (by kernel_rfl) (by kernel_rfl) (by kernel_rfl) (H2 := [.box [.str x0, .int .i64 s138]]) (by kernel_rfl) (n := 1) (by kernel_rfl) ?_
    refine kD 11 ?_
    refine kB 16 hy257 (fun h261 => ?_) (fun h262 => ?_)
    ·refine kD 8 ?_
     obtain ⟨hm, h263⟩ := asrt h261
     refine kQ 25 (.int .u8 (((x0.getD (s138 : Int).toNat 0).toNat : Nat) : Int)) [] (tr2 := [([], []), ([], []), ([], []), ([0, 1], []), ([], []), ([], []), ([], []), ([0, 1], []), ([], []), ([], []), ([], []), ([], []), ([], []), ([], []), ([0, 1], []), ([], []), ([], []), ([], []), ([0, 1], []), ([], [])]) hm ?_
     refine kD 2 ?_
     refine kE ?_
     obtain rfl := oi h263
     exact kN [0, 1, 4, 27]
    ·refine kD 11 ?_
     refine kE ?_
     obtain rfl := oi h262
     exact kN [0, 1, 4, 27]
   ·refine kBJ 27 h259 (fun h265 => ?_) (fun h266 => ?_)
    ·refine kT ?_
     refine kK ?_
     obtain rfl := oi h265
     exact kXl [0, 1, 4]
    ·refine kF ?_
     refine K.exit 0 (by kernel_rfl) ?_
     obtain rfl := oi h266
     have h267 := joinX_inr h249
     refine PJ.cutXr (fun e => nomatch e) ?_
     obtain rfl := oi h267
     refine PJ.loopOut (fun e => nomatch e) (fun he269 => ?_)
     have h268 := congrArg some he269
     refine PJ.blockOut ?_
     obtain rfl := oi h268
     exact kN [0, 1, 4]
  ·subst hs
   have h250 := joinX_inl h249
   refine kb 1 ?_
   refine kR ?_
   refine kC 8 [0,1,4] ?_
   refine kE ?_
   refine PJ.blockNormal ?_
   obtain rfl := oi h250
   exact kLN [0, 1, 4]
 ·refine kSR ?_
  refine kC 5 [0,1,4,5] ?_
  refine kEN ?_
  obtain ⟨s438, hy440, h442⟩ := bindS h137
  refine K.cutN (by kernel_rfl) (fun (s438 : Int) => ([(0, .ptr 0 0), (4, .str ([] : List UInt8)), (5, .int .i64 s438)], [.box [.str x0, .int .i64 s133]])) s438 ?_ ?_
  ·refine kb 2 ?_
   refine kl (fun (s443 : Int) => ([(0, .ptr 0 0), (1, .fn (.func 79) [] []), (4, .str ([] : List UInt8)), (5, .int .i64 s443)], [.box [.str x0, .int .i64 s133]])) hy440 [0, 1, 4, 5] (fun s443 x555 hs554 => ?_)
   obtain ⟨y582, hy583, h584⟩ := bindS hs554
   refine K.cutX (by kernel_rfl) (fun (s581 : Unit) => ([(0, .ptr 0 0), (1, .fn (.func 79) [] []), (4, .str ([] : List UInt8)), (5, .int .i64 s443)], [.box [.str x0, .int .i64 s133]])) y582 ?_ (fun s581 hs => ?_)
   ·obtain ⟨s593, hy595, h597⟩ := bindS hy583
    refine K.cutN (by kernel_rfl) (fun (s593 : Bool) => ([(0, .ptr 0 0), (1, .fn (.func 79) [] []), (4, .str ([] : List UInt8)), (5, .int .i64 s443), (55, .bool s593)], [.box [.str x0, .int .i64 s133]])) s593 ?_ ?_
    ·refine kR ?_
     refine kC 8 [0,1,4,5,46] ?_
     refine kB 46 hy595 (fun h599 => ?_) (fun h600 => ?_)
     ·refine kC 6 [0,1,4,5,46,47,51,52] ?_
      obtain ⟨hm, h601⟩ := asrt h599
      refine kG 53 hm ?_
      obtain ⟨y602, hy603, h604⟩ := bindS h601
      refine kA 54 (rule_reader__number_1_ok hy603) ?_
      refine kC 1 [0,1,4,5,55] ?_
      refine kE ?_
      obtain rfl := oi h604
      exact kN [0, 1, 4, 5, 55]
     ·refine kC 9 [0,1,4,5,55] ?_
      refine kE ?_
      obtain rfl := oi h600
      exact kN [0, 1, 4, 5, 55]
    ·refine kBJ 55 h597 (fun h606 => ?_) (fun h607 => ?_)
     ·refine kT ?_
      refine kK ?_
      obtain rfl := oi h606
      exact kXl [0, 1, 4, 5]
     ·refine kF ?_
      refine K.exit 2 (by kernel_rfl) ?_
      obtain rfl := oi h607
      have h608 := joinX_inr h584
      refine PJ.cutXr (fun e => nomatch e) ?_
      obtain rfl := oi h608
      refine PJ.loopOut (fun e => nomatch e) (fun he610 => ?_)
      have h609 := congrArg some he610
      refine PJ.blockOut ?_
      obtain rfl := oi h609
      exact kN [0, 4, 5]
   ·subst hs
    have h585 := joinX_inl h584
    refine kb 3 ?_
    refine kR ?_
    refine kC 3 [0,1,4,5] ?_
    refine kE ?_
    refine PJ.blockNormal ?_
    obtain rfl := oi h585
    exact kLN [0, 1, 4, 5]
  ·refine kS ?_
   refine J.keep [0, 4, 5] (L2 := [(0, .ptr 0 0), (4, .str ([] : List UInt8)), (5, .int .i64 s438)]) (by kernel_rfl) ?_
   refine K.draw (by kernel_rfl) (by kernel_rfl) (by kernel_rfl) (H2 := [.box [.str x0, .int .i64 s133]]) (by kernel_rfl) (n := 1) (by kernel_rfl) ?_
   refine kD 9 ?_
   obtain ⟨hm, h611⟩ := asrt h442
   refine kQ 67 (.str (cut x0 s133 s438)) [] (tr2 := [([], []), ([], []), ([], []), ([0, 1], []), ([], []), ([], []), ([], []), ([0, 1], []), ([], []), ([], [])]) hm ?_
   refine kD 1 ?_
   refine kEN ?_
   refine kX ?_
   obtain rfl := oi h611
   exact kV [0] hFn hFH hFD (v1 := .str (cut x0 s133 s438))
def rule_reader__number_s0 (x0 : Int) (x1 : List UInt8) (x2 : Int) : Option (Int × Bool × Int) :=
 (Option.bind (rule_reader__run_s2 x1 x2) fun y1 => (Option.bind (Option.bind (bif (decide ((y1.1.length : Int) = 0)) then (some true) else (bif (decide ((y1.1.length : Int) > 9)) then (some true) else (bif (decide ((y1.1.length : Int) > 1)) then (bif inR 0 y1.1.length then (some ((decide (((((y1.1.getD (0 : Int).toNat 0).toNat : Nat) : Int)) = 48)))) else none) else (some false)))) fun (s48 : Bool) => (bif s48 then (some (.inr (0, false, y1.2))) else (some (.inl ())))) (joinX fun (s33 : Unit) => (Option.bind (loopN (fun (s93 : Int × Int) => (bif (decide (s93.2 < ((bytesI y1.1).length : Int))) then (bif inR s93.2 (bytesI y1.1).length then (some (.inl ((IntKind.wrap .i64 ((IntKind.wrap .i64 (s93.1 * 10)) + ((IntKind.wrap .i64 ((IntKind.wrap .u8 ((nth (bytesI y1.1) s93.2) - 48))))))), (IntKind.wrap .i64 (s93.2 + 1))))) else none) else (some (.inr s93.1)))) big (0, 0)) fun (s88 : Int) => (bif (decide (s88 < x0)) then (some (0, false, y1.2)) else (some (s88, true, (IntKind.wrap .i64 (y1.2 + (y1.1.length : Int))))))))))
theorem rule_reader__number_s0_ok {x0 : Int} {x1 : List UInt8} {x2 : Int} {r : Int × Bool × Int} (h : rule_reader__number_s0 x0 x1 x2 = some r) : SC Tryd.prog 67 [.ptr 0 0, .int .i64 x0] [.box [.str x1, .int .i64 x2]] (.tup [.int .i64 r.1, .bool r.2.1]) [.box [.str x1, .int .i64 r.2.2]] := by
 refine kFn (fn := Tryd.f67) (fun F hFn hFH hFD => ?_)
 unfold rule_reader__number_s0 at h
 refine kSR ?_
 refine kC 2 [0,1,4,5] ?_
 refine kEN ?_
 refine kSR ?_
 refine kC 1 [0,1,4,5,10] ?_
 obtain ⟨y1, hy2, h3⟩ := bindS h
 refine kCG (some 11) (args := [.ptr 0 0, .fn (.func 79) [] []]) (v := .str y1.1) (H2 := [.box [.str x1, .int .i64 y1.2]]) [0] (rule_reader__run_s2_ok hy2) ?_
 refine kC 1 [0,1,4,5,6] ?_
 refine kEN ?_
 obtain ⟨y34, hy35, h36⟩ := bindS h3
 refine K.cutX (by kernel_rfl) (fun (s33 : Unit) => ([(0, .ptr 0 0), (1, .int .i64 x0), (4, .int .i64 0), (5, .bool false), (6, .str y1.1)], [.box [.str x1, .int .i64 y1.2]])) y34 ?_ (fun s33 hs => ?_)
 ·obtain ⟨s48, hy50, h52⟩ := bindS hy35
  refine K.cutN (by kernel_rfl) (fun (s48 : Bool) => ([(0, .ptr 0 0), (1, .int .i64 x0), (4, .int .i64 0), (5, .bool false), (6, .str y1.1), (29, .bool s48)], [.box [.str x1, .int .i64 y1.2]])) s48 ?_ ?_
  ·refine kR ?_
   refine kC 4 [0,1,4,5,6,15] ?_
   refine kB 15 hy50 (fun h54 => ?_) (fun h55 => ?_)
   ·refine kC 14 [0,1,4,5,6,29] ?_
    refine kE ?_
    obtain rfl := oi h54
    exact kN [0, 1, 4, 5, 6, 29]
   ·refine kC 5 [0,1,4,5,6,20] ?_
    refine kB 20 h55 (fun h57 => ?_) (fun h58 => ?_)
    ·refine kC 9 [0,1,4,5,6,29] ?_
     refine kE ?_
     obtain rfl := oi h57
     exact kN [0, 1, 4, 5, 6, 29]
    ·refine kC 4 [0,1,4,5,6,20,24] ?_
     refine kB 24 h58 (fun h60 => ?_) (fun h61 => ?_)
     ·refine kC 1 [0,1,4,5,6,20,24,25] ?_
      obtain ⟨hm, h62⟩ := asrt h60
      refine kG 26 hm ?_
      refine kC 3 [0,1,4,5,6,29] ?_
      refine kE ?_
      obtain rfl := oi h62
      exact kN [0, 1, 4, 5, 6, 29]
     ·refine kC 5 [0,1,4,5,6,29] ?_
      refine kE ?_
      obtain rfl := oi h61
      exact kN [0, 1, 4, 5, 6, 29]
  ·refine kBJ 29 h52 (fun h64 => ?_) (fun h65 => ?_)
   ·refine kT ?_
    refine kSR ?_
    refine kC 2 [0,1,4,5,6] ?_
    refine kEN ?_
    refine kX ?_
    obtain rfl := oi h64
    have h66 := joinX_inr h36
    refine PJ.cutXr (fun e => nomatch e) ?_
    obtain rfl := oi h66
    exact kV [0] hFn hFH hFD (v1 := .tup [.int .i64 0, .bool false])
   ·refine kF ?_
    refine kK ?_
    obtain rfl := oi h65
    exact kXl [0, 1, 4, 5, 6]
 ·subst hs
  have h37 := joinX_inl h36
  refine kSR ?_
  refine kC 1 [0,1,4,5,6,7] ?_
  refine kEN ?_
  obtain ⟨s88, hy90, h92⟩ := bindS h37
  refine K.cutN (by kernel_rfl) (fun (s88 : Int) => ([(0, .ptr 0 0), (1, .int .i64 x0), (4, .int .i64 0), (5, .bool false), (6, .str y1.1), (7, .int .i64 s88)], [.box [.str x1, .int .i64 y1.2]])) s88 ?_ ?_
  ·refine kSR ?_
   refine kC 1 [0,1,4,5,6,7,30] ?_
   refine RJ.rel (d := (some 31)) (ef := ⟨.lst y1.1.length 1 (y1.1.map byteSV), [], []⟩) (ef' := ⟨lsv (encI .u8) 1 (bytesI y1.1), [], []⟩) (c := true) (tr2 := []) (H2 := [.box [.str x1, .int .i64 y1.2]]) (by kernel_rfl) rfl (fun hc => N.toBytes) (by kernel_rfl) ?_
   refine kC 2 [0,1,4,5,6,7,31,32,33] ?_
   refine kEN ?_
   refine kb 0 ?_
   refine kl (fun (s93 : Int × Int) => ([(0, .ptr 0 0), (1, .int .i64 x0), (4, .int .i64 0), (5, .bool false), (6, .str y1.1), (7, .int .i64 s93.1), (31, lsv (encI .u8) 1 (bytesI y1.1)), (32, .int .i64 ((bytesI y1.1).length : Int)), (33, .int .i64 s93.2)], [.box [.str x1, .int .i64 y1.2]])) hy90 [0, 1, 4, 5, 6, 7, 31, 32, 33] (fun s93 x107 hs106 => ?_)
   refine kSR ?_
   refine kC 1 [0,1,4,5,6,7,31,32,33,34] ?_
   refine kEN ?_
   refine kS ?_
   refine kBJ 34 hs106 (fun h109 => ?_) (fun h110 => ?_)
   ·refine kT ?_
    refine kK ?_
    refine PJ.next ?_
    refine kS ?_
    refine kb 1 ?_
    refine kSR ?_
    obtain ⟨hm, h111⟩ := asrt h109
    refine kI 35 (encI_len .u8) hm ?_
    refine kC 2 [0,1,4,5,6,7,9,31,32,33] ?_
    refine kEN ?_
    refine kR ?_
    refine kC 7 [0,1,4,5,6,7,31,32,33] ?_
    refine kE ?_
    refine PJ.blockNormal ?_
    refine PJ.next ?_
    refine kR ?_
    refine kC 2 [0,1,4,5,6,7,31,32,33] ?_
    refine kE ?_
    obtain rfl := oi h111
    exact kLN [0, 1, 4, 5, 6, 7, 31, 32, 33]
   ·refine kF ?_
    refine K.exit 0 (by kernel_rfl) ?_
    refine PJ.passExit ?_
    obtain rfl := oi h110
    refine PJ.loopOut (fun e => nomatch e) (fun he113 => ?_)
    have h112 := congrArg some he113
    refine PJ.blockOut ?_
    obtain rfl := oi h112
    exact kN [0, 1, 4, 5, 6, 7]
  ·refine kS ?_
   refine kSR ?_
   refine kC 3 [0,4,5,6,7,46] ?_
   refine kEN ?_
   refine kBJ 46 h92 (fun h115 => ?_) (fun h116 => ?_)
   ·refine kT ?_
    refine kSR ?_
    refine kC 2 [0,4,5,6,7] ?_
    refine kEN ?_
    refine kX ?_
    refine PJ.passRet ?_
    obtain rfl := oi h115
    exact kV [0] hFn hFH hFD (v1 := .tup [.int .i64 0, .bool false])
   ·refine kF ?_
    refine kK ?_
    refine PJ.next ?_
    refine kSR ?_
    refine kC 10 [4,5,7] ?_
    refine kEN ?_
    refine kSR ?_
    refine kC 3 [4,5] ?_
    refine kEN ?_
    refine kX ?_
    obtain rfl := oi h116
    exact kV [0] hFn hFH hFD (v1 := .tup [.int .i64 s88, .bool true])
def rule_reader__mod_s0 (x0 : List UInt8) (x1 : Int) (x2 : Int) (x3 : Int) (x4 : Bool) : Option (Bool × Int × Int) :=
 (Option.bind (rule_reader__eat_s0 ([37] : List UInt8) x0 x1) fun y1 => (bif (!y1.1) then (some (true, y1.2, x3)) else (Option.bind (rule_reader__number_s0 1 x0 y1.2) fun y7 => (some (y7.2.1, y7.2.2, y7.1)))))
theorem rule_reader__mod_s0_ok {x0 : List UInt8} {x1 : Int} {x2 : Int} {x3 : Int} {x4 : Bool} {r : Bool × Int × Int} (h : rule_reader__mod_s0 x0 x1 x2 x3 x4 = some r) : SC Tryd.prog 51 [.ptr 0 0, .ptr 1 0] [.box [.str x0, .int .i64 x1], .box [.int .u8 x2, .int .i64 x3, .bool x4, .nl]] (.bool r.1) [.box [.str x0, .int .i64 r.2.1], .box [.int .u8 x2, .int .i64 r.2.2, .bool x4, .nl]] := by
 refine kFn (fn := Tryd.f51) (fun F hFn hFH hFD => ?_)
 unfold rule_reader__mod_s0 at h
 refine kSR ?_
 refine kC 1 [0,1,4] ?_
 refine kEN ?_
 refine kS ?_
 refine kSR ?_
 refine kC 1 [0,1,4,6] ?_
 obtain ⟨y1, hy2, h3⟩ := bindS h
 refine kCG (some 7) (args := [.ptr 0 0, .str ([37] : List UInt8)]) (v := .bool y1.1) (H2 := [.box [.str x0, .int .i64 y1.2], .box [.int .u8 x2, .int .i64 x3, .bool x4, .nl]]) [0] (rule_reader__eat_s0_ok hy2) ?_
 refine kC 1 [0,1,4,8] ?_
 refine kEN ?_
 refine kBJ 8 h3 (fun h5 => ?_) (fun h6 => ?_)
 ·refine kT ?_
  refine kSR ?_
  refine kC 1 [0,1,4] ?_
  refine kEN ?_
  refine kX ?_
  refine PJ.passRet ?_
  obtain rfl := oi h5
  exact kV [0, 1] hFn hFH hFD (v1 := .bool true)
 ·refine kF ?_
  refine kK ?_
  refine PJ.next ?_
  refine kSR ?_
  refine kC 1 [0,1,4,5] ?_
  refine kEN ?_
  refine kSR ?_
  refine kC 2 [4,5,10,11] ?_
  obtain ⟨y7, hy8, h9⟩ := bindS h6
  refine kCG (some 12) (args := [.ptr 0 0, .int .i64 1]) (v := .tup [.int .i64 y7.1, .bool y7.2.1]) (H2 := [.box [.str x0, .int .i64 y7.2.2], .box [.int .u8 x2, .int .i64 x3, .bool x4, .nl]]) [0] (rule_reader__number_s0_ok hy8) ?_
  refine kC 7 [4,5] ?_
  refine kEN ?_
  refine kSR ?_
  refine kC 2 [4] ?_
  refine kEN ?_
  refine kX ?_
  obtain rfl := oi h9
  exact kV [0, 1] hFn hFH hFD (v1 := .bool y7.2.1)
def rule_reader__sign_s0 (x0 : List UInt8) (x1 : Int) (x2 : Int) (x3 : Int) (x4 : Bool) : Option (Bool × Int × Bool) :=
 (Option.bind (rule_reader__eat_s0 ([61] : List UInt8) x0 x1) fun y1 => (bif y1.1 then (some (true, y1.2, x4)) else (Option.bind (rule_reader__eat_s0 ([33, 61] : List UInt8) x0 y1.2) fun y7 => (some (y7.1, y7.2, y7.1)))))
theorem rule_reader__sign_s0_ok {x0 : List UInt8} {x1 : Int} {x2 : Int} {x3 : Int} {x4 : Bool} {r : Bool × Int × Bool} (h : rule_reader__sign_s0 x0 x1 x2 x3 x4 = some r) : SC Tryd.prog 52 [.ptr 0 0, .ptr 1 0] [.box [.str x0, .int .i64 x1], .box [.int .u8 x2, .int .i64 x3, .bool x4, .nl]] (.bool r.1) [.box [.str x0, .int .i64 r.2.1], .box [.int .u8 x2, .int .i64 x3, .bool r.2.2, .nl]] := by
 refine kFn (fn := Tryd.f52) (fun F hFn hFH hFD => ?_)
 unfold rule_reader__sign_s0 at h
 refine kSR ?_
 refine kC 1 [0,1,4] ?_
 refine kEN ?_
 refine kS ?_
 refine kSR ?_
 refine kC 1 [0,1,4,5] ?_
 obtain ⟨y1, hy2, h3⟩ := bindS h
 refine kCG (some 6) (args := [.ptr 0 0, .str ([61] : List UInt8)]) (v := .bool y1.1) (H2 := [.box [.str x0, .int .i64 y1.2], .box [.int .u8 x2, .int .i64 x3, .bool x4, .nl]]) [0] (rule_reader__eat_s0_ok hy2) ?_
 refine kEN ?_
 refine kBJ 6 h3 (fun h5 => ?_) (fun h6 => ?_)
 ·refine kT ?_
  refine kSR ?_
  refine kC 1 [0,1,4] ?_
  refine kEN ?_
  refine kX ?_
  refine PJ.passRet ?_
  obtain rfl := oi h5
  exact kV [0, 1] hFn hFH hFD (v1 := .bool true)
 ·refine kF ?_
  refine kK ?_
  refine PJ.next ?_
  refine kSR ?_
  refine kC 2 [1,4,7,8] ?_
  obtain ⟨y7, hy8, h9⟩ := bindS h6
  refine kCG (some 9) (args := [.ptr 0 0, .str ([33, 61] : List UInt8)]) (v := .bool y7.1) (H2 := [.box [.str x0, .int .i64 y7.2], .box [.int .u8 x2, .int .i64 x3, .bool x4, .nl]]) [0] (rule_reader__eat_s0_ok hy8) ?_
  refine kC 3 [1,4] ?_
  refine kEN ?_
  refine kSR ?_
  refine kC 5 [4] ?_
  refine kEN ?_
  refine kX ?_
  obtain rfl := oi h9
  exact kV [0, 1] hFn hFH hFD (v1 := .bool y7.1)
def rule_reader__ranges_s0 (x0 : List UInt8) (x1 : Int) (x2 : Int) (x3 : Int) (x4 : Bool) : Option (Bool × Int × (List St73)) :=
 (loopN (fun (s1 : Int × (List St73)) => (Option.bind (rule_reader__number_s0 0 x0 s1.1) fun y140 => (Option.bind (Option.bind (bif y140.2.1 then (Option.bind (rule_reader__eat_s0 ([46, 46] : List UInt8) x0 y140.2.2) fun y185 => (some (y185.1, y185.2))) else (some (false, y140.2.2))) fun (s177 : Bool × Int) => (bif s177.1 then (Option.bind (rule_reader__number_s0 (IntKind.wrap .i64 (y140.1 + 1)) x0 s177.2) fun y191 => (some (y191.2.1, y191.1, y191.2.2))) else (some (y140.2.1, y140.1, s177.2)))) fun (s166 : Bool × Int × Int) => (bif (!s166.1) then (some (.inr (false, s166.2.2, s1.2))) else (bif room (s1.2.length + ([(⟨y140.1, s166.2.1⟩ : St73)] : List St73).length) then (Option.bind (rule_reader__eat_s0 ([44] : List UInt8) x0 s166.2.2) fun y200 => (bif (!y200.1) then (some (.inr (true, y200.2, (s1.2 ++ ([(⟨y140.1, s166.2.1⟩ : St73)] : List St73))))) else (some (.inl (y200.2, (s1.2 ++ ([(⟨y140.1, s166.2.1⟩ : St73)] : List St73))))))) else none))))) big (x1, ([] : List St73)))
theorem rule_reader__ranges_s0_ok {x0 : List UInt8} {x1 : Int} {x2 : Int} {x3 : Int} {x4 : Bool} {r : Bool × Int × (List St73)} (h : rule_reader__ranges_s0 x0 x1 x2 x3 x4 = some r) : SC Tryd.prog 53 [.ptr 0 0, .ptr 1 0] [.box [.str x0, .int .i64 x1], .box [.int .u8 x2, .int .i64 x3, .bool x4, .nl]] (.bool r.1) [.box [.str x0, .int .i64 r.2.1], .box [.int .u8 x2, .int .i64 x3, .bool x4, .vc 2], vecL encSt73 2 73 r.2.2] := by
 refine kFn (fn := Tryd.f53) (fun F hFn hFH hFD => ?_)
 unfold rule_reader__ranges_s0 at h
 refine kSR ?_
 refine kC 1 [0,1,4] ?_
 refine kEN ?_
 refine kb 0 ?_
 refine J.wk (Wk.vivBox 1 3 2 73 (cs := [.int .u8 x2, .int .i64 x3, .bool x4, .nl]) (by kernel_rfl) (by kernel_rfl)) ?_
 refine kl (fun (s1 : Int × (List St73)) => ([(0, .ptr 0 0), (1, .ptr 1 0), (4, .bool false)], [.box [.str x0, .int .i64 s1.1], .box [.int .u8 x2, .int .i64 x3, .bool x4, .vc 2], vecL encSt73 2 73 s1.2])) h [0, 1, 4] (fun s1 x139 hs138 => ?_)
 refine kb 1 ?_
 refine kSR ?_
 refine kC 1 [0,1,4,9] ?_
 obtain ⟨y140, hy141, h142⟩ := bindS hs138
 refine kCG (some 10) (args := [.ptr 0 0, .int .i64 0]) (v := .tup [.int .i64 y140.1, .bool y140.2.1]) (H2 := [.box [.str x0, .int .i64 y140.2.2], .box [.int .u8 x2, .int .i64 x3, .bool x4, .vc 2], vecL encSt73 2 73 s1.2]) [0] (rule_reader__number_s0_ok hy141) ?_
 refine kC 5 [0,1,4,5,6] ?_
 refine kEN ?_
 refine kSR ?_
 refine kC 2 [0,1,4,5,6,7] ?_
 refine kEN ?_
 obtain ⟨s166, hy168, h170⟩ := bindS h142
 refine K.cutN (by kernel_rfl) (fun (s166 : Bool × Int × Int) => ([(0, .ptr 0 0), (1, .ptr 1 0), (4, .bool false), (5, .int .i64 y140.1), (6, .bool s166.1), (7, .int .i64 s166.2.1)], [.box [.str x0, .int .i64 s166.2.2], .box [.int .u8 x2, .int .i64 x3, .bool x4, .vc 2], vecL encSt73 2 73 s1.2])) s166 ?_ ?_
 ·obtain ⟨s177, hy179, h181⟩ := bindS hy168
  refine K.cutN (by kernel_rfl) (fun (s177 : Bool × Int) => ([(0, .ptr 0 0), (1, .ptr 1 0), (4, .bool false), (5, .int .i64 y140.1), (6, .bool y140.2.1), (7, .int .i64 y140.1), (18, .bool s177.1)], [.box [.str x0, .int .i64 s177.2], .box [.int .u8 x2, .int .i64 x3, .bool x4, .vc 2], vecL encSt73 2 73 s1.2])) s177 ?_ ?_
  ·refine kR ?_
   refine kC 2 [0,1,4,5,6,7,15] ?_
   refine kB 15 hy179 (fun h183 => ?_) (fun h184 => ?_)
   ·refine kC 1 [0,1,4,5,6,7,15,16] ?_
    obtain ⟨y185, hy186, h187⟩ := bindS h183
    refine kCG (some 17) (args := [.ptr 0 0, .str ([46, 46] : List UInt8)]) (v := .bool y185.1) (H2 := [.box [.str x0, .int .i64 y185.2], .box [.int .u8 x2, .int .i64 x3, .bool x4, .vc 2], vecL encSt73 2 73 s1.2]) [0] (rule_reader__eat_s0_ok hy186) ?_
    refine kC 1 [0,1,4,5,6,7,18] ?_
    refine kE ?_
    obtain rfl := oi h187
    exact kN [0, 1, 4, 5, 6, 7, 18]
   ·refine kC 3 [0,1,4,5,6,7,18] ?_
    refine kE ?_
    obtain rfl := oi h184
    exact kN [0, 1, 4, 5, 6, 7, 18]
  ·refine kBJ 18 h181 (fun h189 => ?_) (fun h190 => ?_)
   ·refine kT ?_
    refine kR ?_
    refine kC 3 [0,1,4,5,6,7,20,22] ?_
    obtain ⟨y191, hy192, h193⟩ := bindS h189
    refine kCG (some 23) (args := [.ptr 0 0, .int .i64 (IntKind.wrap .i64 (y140.1 + 1))]) (v := .tup [.int .i64 y191.1, .bool y191.2.1]) (H2 := [.box [.str x0, .int .i64 y191.2.2], .box [.int .u8 x2, .int .i64 x3, .bool x4, .vc 2], vecL encSt73 2 73 s1.2]) [0] (rule_reader__number_s0_ok hy192) ?_
    refine kC 5 [0,1,4,5,6,7] ?_
    refine kE ?_
    obtain rfl := oi h193
    exact kN [0, 1, 4, 5, 6, 7]
   ·refine kF ?_
    refine kK ?_
    obtain rfl := oi h190
    exact kN [0, 1, 4, 5, 6, 7]
 ·refine kS ?_
  refine kSR ?_
  refine kC 2 [0,1,4,5,7,27] ?_
  refine kEN ?_
  refine kBJ 27 h170 (fun h195 => ?_) (fun h196 => ?_)
  ·refine kT ?_
   refine kSR ?_
   refine kC 1 [0,1,4,5,7] ?_
   refine kEN ?_
   refine kX ?_
   refine PJ.passRet ?_
   refine PJ.blockRet ?_
   obtain rfl := oi h195
   refine PJ.loopOut (fun e => nomatch e) (fun he198 => ?_)
   have h197 := congrArg some he198
   refine PJ.blockRet ?_
   obtain rfl := oi h197
   exact kV [0, 1, 2] hFn hFH hFD (v1 := .bool false)
  ·refine kF ?_
   refine kK ?_
   refine PJ.next ?_
   refine kSR ?_
   refine kC 9 [0,1,4,28,32,36] ?_
   obtain ⟨hm, h199⟩ := asrt h196
   refine RJ.rel (d := (some 37)) (ef := ⟨.vc 4, [2, 3], [(2, .gone), (4, .vec (s1.2.length + ([(⟨y140.1, s166.2.1⟩ : St73)] : List St73).length) 2 73 (s1.2.flatMap encSt73 ++ ([(⟨y140.1, s166.2.1⟩ : St73)] : List St73).flatMap encSt73))]⟩) (ef' := ⟨.vc 4, [2, 3], [(2, .gone), (4, vecL encSt73 2 73 (s1.2 ++ ([(⟨y140.1, s166.2.1⟩ : St73)] : List St73)))]⟩) (c := room (s1.2.length + ([(⟨y140.1, s166.2.1⟩ : St73)] : List St73).length)) (tr2 := []) (H2 := [.box [.str x0, .int .i64 s166.2.2], .box [.int .u8 x2, .int .i64 x3, .bool x4, .vc 2], .gone, vecL encSt73 2 73 ([(⟨y140.1, s166.2.1⟩ : St73)] : List St73), vecL encSt73 2 73 ((s1.2 ++ ([(⟨y140.1, s166.2.1⟩ : St73)] : List St73)))]) (by kernel_rfl) hm (fun hc => N.app) (by kernel_rfl) ?_
   refine kC 3 [0,1,4] ?_
   refine kEN ?_
   refine kSR ?_
   refine kC 1 [0,1,4,40] ?_
   obtain ⟨y200, hy201, h202⟩ := bindS h199
   refine kCG (some 41) (args := [.ptr 0 0, .str ([44] : List UInt8)]) (v := .bool y200.1) (H2 := [.box [.str x0, .int .i64 y200.2], .box [.int .u8 x2, .int .i64 x3, .bool x4, .vc 4], .gone, vecL encSt73 2 73 ([(⟨y140.1, s166.2.1⟩ : St73)] : List St73), vecL encSt73 2 73 ((s1.2 ++ ([(⟨y140.1, s166.2.1⟩ : St73)] : List St73)))]) [0] (rule_reader__eat_s0_ok hy201) ?_
   refine kC 1 [0,1,4,42] ?_
   refine kEN ?_
   refine kBJ 42 h202 (fun h204 => ?_) (fun h205 => ?_)
   ·refine kT ?_
    refine kSR ?_
    refine kC 1 [0,1,4] ?_
    refine kEN ?_
    refine kX ?_
    refine PJ.blockRet ?_
    obtain rfl := oi h204
    refine PJ.loopOut (fun e => nomatch e) (fun he207 => ?_)
    have h206 := congrArg some he207
    refine PJ.blockRet ?_
    obtain rfl := oi h206
    exact kV [0, 1, 4] hFn hFH hFD (v1 := .bool true)
   ·refine kF ?_
    refine kK ?_
    refine PJ.blockNormal ?_
    obtain rfl := oi h205
    refine kW (L2 := [(0, .ptr 0 0), (1, .ptr 1 0), (4, .bool false)]) (H2 := [.box [.str x0, .int .i64 y200.2], .box [.int .u8 x2, .int .i64 x3, .bool x4, .vc 2], vecL encSt73 2 73 ((s1.2 ++ ([(⟨y140.1, s166.2.1⟩ : St73)] : List St73)))]) hFH hFD [0, 1, 4] ?_
    exact kLN [0, 1, 4]
def rule_reader__relation_s0 (x0 : List UInt8) (x1 : Int) : Option (St71 × Bool × Int) :=
 (Option.bind (Option.bind (Option.bind (rule_reader__operand_s0 x0 x1 0 0 false) fun y83 => (bif y83.1 then (Option.bind (rule_reader__mod_s0 x0 y83.2.1 y83.2.2 0 false) fun y89 => (bif y89.1 then (Option.bind (rule_reader__sign_s0 x0 y89.2.1 y83.2.2 y89.2.2 false) fun y95 => (bif y95.1 then (Option.bind (rule_reader__ranges_s0 x0 y95.2.1 y83.2.2 y89.2.2 y95.2.2) fun y101 => (some (y101.1, y101.2.1, y83.2.2, y89.2.2, y95.2.2, y101.2.2))) else (some (false, y95.2.1, y83.2.2, y89.2.2, y95.2.2, ([] : List St73))))) else (some (false, y89.2.1, y83.2.2, y89.2.2, false, ([] : List St73))))) else (some (false, y83.2.1, y83.2.2, 0, false, ([] : List St73))))) fun (s78 : Bool × Int × Int × Int × Bool × (List St73)) => (bif s78.1 then (some (.inr ((⟨s78.2.2.1, s78.2.2.2.1, s78.2.2.2.2.1, s78.2.2.2.2.2⟩ : St71), true, s78.2.1))) else (some (.inl s78.2.1)))) (joinX fun (s52 : Int) => (some ((⟨0, 0, false, ([] : List St73)⟩ : St71), false, s52))))
theorem rule_reader__relation_s0_ok {x0 : List UInt8} {x1 : Int} {r : St71 × Bool × Int} (h : rule_reader__relation_s0 x0 x1 = some r) : SC Tryd.prog 41 [.ptr 0 0] [.box [.str x0, .int .i64 x1]] (.tup [.agg (encSt71 r.1), .bool r.2.1]) [.box [.str x0, .int .i64 r.2.2]] := by
 refine kFn (fn := Tryd.f41) (fun F hFn hFH hFD => ?_)
 unfold rule_reader__relation_s0 at h
 refine kSR ?_
 refine kC 2 [0,2,3] ?_
 refine kEN ?_
 refine kSR ?_
 refine kC 1 [0,2,3,4] ?_
 refine kEN ?_
 obtain ⟨y53, hy54, h55⟩ := bindS h
 refine K.cutX (by kernel_rfl) (fun (s52 : Int) => ([(2, .ptr 1 0), (3, .bool false)], [.box [.str x0, .int .i64 s52], .box [.int .u8 0, .int .i64 0, .bool false, .nl]])) y53 ?_ (fun s52 hs => ?_)
 ·obtain ⟨s78, hy80, h82⟩ := bindS hy54
  refine K.cutN (by kernel_rfl) (fun (s78 : Bool × Int × Int × Int × Bool × (List St73)) => ([(2, .ptr 1 0), (3, .bool false), (4, .ptr 2 0), (18, .bool s78.1)], [.box [.str x0, .int .i64 s78.2.1], .box [.int .u8 0, .int .i64 0, .bool false, .nl], .box [.int .u8 s78.2.2.1, .int .i64 s78.2.2.2.1, .bool s78.2.2.2.2.1, .vc 3], vecL encSt73 2 73 s78.2.2.2.2.2])) s78 ?_ ?_
  ·refine kR ?_
   refine kC 1 [0,2,3,4,5] ?_
   obtain ⟨y83, hy84, h85⟩ := bindS hy80
   refine kCG (some 6) (args := [.ptr 0 0, .ptr 2 0]) (v := .bool y83.1) (H2 := [.box [.str x0, .int .i64 y83.2.1], .box [.int .u8 0, .int .i64 0, .bool false, .nl], .box [.int .u8 y83.2.2, .int .i64 0, .bool false, .nl]]) [0, 2] (rule_reader__operand_s0_ok hy84) ?_
   refine kC 1 [0,2,3,4,7] ?_
   refine kB 7 h85 (fun h87 => ?_) (fun h88 => ?_)
   ·refine kC 1 [0,2,3,4,7,8] ?_
    obtain ⟨y89, hy90, h91⟩ := bindS h87
    refine kCG (some 9) (args := [.ptr 0 0, .ptr 2 0]) (v := .bool y89.1) (H2 := [.box [.str x0, .int .i64 y89.2.1], .box [.int .u8 0, .int .i64 0, .bool false, .nl], .box [.int .u8 y83.2.2, .int .i64 y89.2.2, .bool false, .nl]]) [0, 2] (rule_reader__mod_s0_ok hy90) ?_
    refine kC 2 [0,2,3,4,11] ?_
    refine kB 11 h91 (fun h93 => ?_) (fun h94 => ?_)
    ·refine kC 1 [0,2,3,4,11,12] ?_
     obtain ⟨y95, hy96, h97⟩ := bindS h93
     refine kCG (some 13) (args := [.ptr 0 0, .ptr 2 0]) (v := .bool y95.1) (H2 := [.box [.str x0, .int .i64 y95.2.1], .box [.int .u8 0, .int .i64 0, .bool false, .nl], .box [.int .u8 y83.2.2, .int .i64 y89.2.2, .bool y95.2.2, .nl]]) [0, 2] (rule_reader__sign_s0_ok hy96) ?_
     refine kC 2 [0,2,3,4,15] ?_
     refine kB 15 h97 (fun h99 => ?_) (fun h100 => ?_)
     ·refine RJ.seg 1 [2, 3, 4, 15, 16] (L2 := [(2, .ptr 1 0), (3, .bool false), (4, .ptr 2 0), (15, .bool true), (16, .ptr 0 0)]) (H2 := [.box [.str x0, .int .i64 y95.2.1], .box [.int .u8 0, .int .i64 0, .bool false, .nl], .box [.int .u8 y83.2.2, .int .i64 y89.2.2, .bool y95.2.2, .nl]]) (by kernel_rfl) ?_
      obtain ⟨y101, hy102, h103⟩ := bindS h99
      refine kCG (some 17) (args := [.ptr 0 0, .ptr 2 0]) (v := .bool y101.1) (H2 := [.box [.str x0, .int .i64 y101.2.1], .box [.int .u8 0, .int .i64 0, .bool false, .nl], .box [.int .u8 y83.2.2, .int .i64 y89.2.2, .bool y95.2.2, .vc 3], vecL encSt73 2 73 y101.2.2]) [0, 2] (rule_reader__ranges_s0_ok hy102) ?_
      refine kC 1 [2,3,4,18] ?_
      refine kE ?_
      obtain rfl := oi h103
      exact kN [2, 3, 4, 18]
     ·refine RJ.seg 3 [2, 3, 4, 18] (L2 := [(2, .ptr 1 0), (3, .bool false), (4, .ptr 2 0), (18, .bool false)]) (H2 := [.box [.str x0, .int .i64 y95.2.1], .box [.int .u8 0, .int .i64 0, .bool false, .nl], .box [.int .u8 y83.2.2, .int .i64 y89.2.2, .bool y95.2.2, .nl]]) (by kernel_rfl) ?_
      refine kE ?_
      obtain rfl := oi h100
      refine PJ.wk (Wk.vivBox 2 3 2 73 (cs := [.int .u8 y83.2.2, .int .i64 y89.2.2, .bool y95.2.2, .nl]) (by kernel_rfl) (by kernel_rfl)) ?_
      exact kN [2, 3, 4, 18]
    ·refine kC 7 [2,3,4,18] ?_
     refine kE ?_
     obtain rfl := oi h94
     refine PJ.wk (Wk.vivBox 2 3 2 73 (cs := [.int .u8 y83.2.2, .int .i64 y89.2.2, .bool false, .nl]) (by kernel_rfl) (by kernel_rfl)) ?_
     exact kN [2, 3, 4, 18]
   ·refine kC 11 [2,3,4,18] ?_
    refine kE ?_
    obtain rfl := oi h88
    refine PJ.wk (Wk.vivBox 2 3 2 73 (cs := [.int .u8 y83.2.2, .int .i64 0, .bool false, .nl]) (by kernel_rfl) (by kernel_rfl)) ?_
    exact kN [2, 3, 4, 18]
  ·refine kBJ 18 h82 (fun h105 => ?_) (fun h106 => ?_)
   ·refine kT ?_
    refine kSR ?_
    refine kC 3 [2,3] ?_
    refine kEN ?_
    refine kX ?_
    obtain rfl := oi h105
    have h107 := joinX_inr h55
    refine PJ.cutXr (fun e => nomatch e) ?_
    obtain rfl := oi h107
    refine PJ.wk (Wk.freeze 3 (n := s78.2.2.2.2.2.length) (k := 2) (e := 73) (cs := s78.2.2.2.2.2.flatMap encSt73) (by kernel_rfl)) ?_
    exact kV [0] hFn hFH hFD (v1 := .tup [.agg [.int .u8 s78.2.2.1, .int .i64 s78.2.2.2.1, .bool s78.2.2.2.2.1, lsv encSt73 2 s78.2.2.2.2.2], .bool true])
   ·refine kF ?_
    refine kK ?_
    obtain rfl := oi h106
    refine kW (L2 := [(2, .ptr 1 0), (3, .bool false)]) (H2 := [.box [.str x0, .int .i64 s78.2.1], .box [.int .u8 0, .int .i64 0, .bool false, .nl]]) hFH hFD [0, 1] ?_
    exact kXl [2, 3]
 ·subst hs
  have h56 := joinX_inl h55
  refine kSR ?_
  refine kC 3 [2,3] ?_
  refine kEN ?_
  refine kX ?_
  obtain rfl := oi h56
  refine PJ.res (v1 := .tup [.agg [.int .u8 0, .int .i64 0, .bool false, .nl], .bool false]) (Le.tup (.cons (Le.agg (.cons (Le.refl _) (.cons (Le.refl _) (.cons (Le.refl _) (.cons (Le.nl _) .nil))))) (.cons (Le.refl _) .nil))) ?_
  exact kV [0] hFn hFH hFD (v1 := .tup [.agg [.int .u8 0, .int .i64 0, .bool false, .nl], .bool false])
def rule_reader__rows_s0 (x0 : List UInt8) (x1 : Int) : Option ((List (List St71)) × Bool × Int) :=
 (Option.bind (loopN (fun (s75 : Int × (List (List St71)) × (List St71)) => (Option.bind (rule_reader__relation_s0 x0 s75.1) fun y122 => (bif (!y122.2.1) then (some (.inr (.inr (([] : List (List St71)), false, y122.2.2)))) else (bif room (s75.2.2.length + ([y122.1] : List St71).length) then (Option.bind (rule_reader__word_s0 x0 y122.2.2) fun y132 => (bif (y132.1 == ([97, 110, 100] : List UInt8)) then (some (.inl ((IntKind.wrap .i64 (y132.2 + (y132.1.length : Int))), s75.2.1, (s75.2.2 ++ ([y122.1] : List St71))))) else (bif (y132.1 == ([111, 114] : List UInt8)) then (bif room (s75.2.1.length + (([(s75.2.2 ++ ([y122.1] : List St71))] : List (List St71))).length) then (some (.inl ((IntKind.wrap .i64 (y132.2 + (y132.1.length : Int))), (s75.2.1 ++ (([(s75.2.2 ++ ([y122.1] : List St71))] : List (List St71)))), ([] : List St71)))) else none) else (some (.inr (.inl (y132.2, s75.2.1, (s75.2.2 ++ ([y122.1] : List St71))))))))) else none)))) big (x1, ([] : List (List St71)), ([] : List St71))) (joinX fun (s70 : Int × (List (List St71)) × (List St71)) => (bif room (s70.2.1.length + ([s70.2.2] : List (List St71)).length) then (some ((s70.2.1 ++ ([s70.2.2] : List (List St71))), (decide (s70.1 = (x0.length : Int))), s70.1)) else none)))
theorem rule_reader__rows_s0_ok {x0 : List UInt8} {x1 : Int} {r : (List (List St71)) × Bool × Int} (h : rule_reader__rows_s0 x0 x1 = some r) : SC Tryd.prog 29 [.ptr 0 0] [.box [.str x0, .int .i64 x1]] (.tup [lsv (encL encSt71 4) 1 r.1, .bool r.2.1]) [.box [.str x0, .int .i64 r.2.2]] := by
 refine kFn (fn := Tryd.f29) (fun F hFn hFH hFD => ?_)
 unfold rule_reader__rows_s0 at h
 refine kSR ?_
 refine kC 2 [0,2,3] ?_
 refine kEN ?_
 refine K.scope (by kernel_rfl) ?_
 refine kSR ?_
 refine kC 1 [0,2,3,4] ?_
 refine kEN ?_
 refine kSR ?_
 refine kC 1 [0,2,3,4,5] ?_
 refine kEN ?_
 refine kS ?_
 refine K.label (by kernel_rfl) ?_
 refine PJ.next ?_
 obtain ⟨y71, hy72, h73⟩ := bindS h
 refine K.cutX (by kernel_rfl) (fun (s70 : Int × (List (List St71)) × (List St71)) => ([(0, .ptr 0 0), (2, .nl), (3, .bool false), (4, .vc 1), (5, .vc 2)], [.box [.str x0, .int .i64 s70.1], vecL (encL encSt71 4) 1 69 s70.2.1, vecL encSt71 4 72 s70.2.2])) y71 ?_ (fun s70 hs => ?_)
 ·refine kb 0 ?_
  refine J.wk (Wk.viv 4 1 69 (by kernel_rfl)) ?_
  refine J.wk (Wk.viv 5 4 72 (by kernel_rfl)) ?_
  refine kl (fun (s75 : Int × (List (List St71)) × (List St71)) => ([(0, .ptr 0 0), (2, .nl), (3, .bool false), (4, .vc 1), (5, .vc 2)], [.box [.str x0, .int .i64 s75.1], vecL (encL encSt71 4) 1 69 s75.2.1, vecL encSt71 4 72 s75.2.2])) hy72 [0, 2, 3, 4, 5] (fun s75 x121 hs120 => ?_)
  refine kb 1 ?_
  refine kSR ?_
  refine kC 1 [0,2,3,4,5,10] ?_
  obtain ⟨y122, hy123, h124⟩ := bindS hs120
  refine kCG (some 11) (args := [.ptr 0 0]) (v := .tup [.agg (encSt71 y122.1), .bool y122.2.1]) (H2 := [.box [.str x0, .int .i64 y122.2.2], vecL (encL encSt71 4) 1 69 s75.2.1, vecL encSt71 4 72 s75.2.2]) [0] (rule_reader__relation_s0_ok hy123) ?_
  refine kC 6 [0,2,3,4,5,6,7] ?_
  refine kEN ?_
  refine kS ?_
  refine kSR ?_
  refine kC 2 [0,2,3,4,5,6,15] ?_
  refine kEN ?_
  refine kBJ 15 h124 (fun h126 => ?_) (fun h127 => ?_)
  ·refine kT ?_
   refine kSR ?_
   refine kC 2 [0,2,3,4,5,6] ?_
   refine kEN ?_
   refine kX ?_
   refine PJ.passRet ?_
   refine PJ.blockRet ?_
   obtain rfl := oi h126
   refine PJ.loopOut (fun e => nomatch e) (fun he130 => ?_)
   have h128 := congrArg some he130
   refine PJ.blockRet ?_
   obtain rfl := oi h128
   have h129 := joinX_inr h73
   refine PJ.cutXr (fun e => nomatch e) ?_
   refine PJ.scR ?_
   obtain rfl := oi h129
   refine PJ.res (v1 := .tup [.nl, .bool false]) (Le.tup (.cons (Le.nl _) (.cons (Le.refl _) .nil))) ?_
   exact kV [0] hFn hFH hFD (v1 := .tup [.nl, .bool false])
  ·refine kF ?_
   refine kK ?_
   refine PJ.next ?_
   refine kSR ?_
   refine kC 3 [0,2,3,4,5,16,18] ?_
   obtain ⟨hm, h131⟩ := asrt h127
   refine RJ.rel (d := (some 19)) (ef := ⟨.vc 5, [2, 4], [(2, .gone), (5, .vec (s75.2.2.length + ([y122.1] : List St71).length) 4 72 (s75.2.2.flatMap encSt71 ++ ([y122.1] : List St71).flatMap encSt71))]⟩) (ef' := ⟨.vc 5, [2, 4], [(2, .gone), (5, vecL encSt71 4 72 (s75.2.2 ++ ([y122.1] : List St71)))]⟩) (c := room (s75.2.2.length + ([y122.1] : List St71).length)) (tr2 := []) (H2 := [.box [.str x0, .int .i64 y122.2.2], vecL (encL encSt71 4) 1 69 s75.2.1, .gone, .box (encSt71 y122.1), vecL encSt71 4 72 ([y122.1] : List St71), vecL encSt71 4 72 (s75.2.2 ++ ([y122.1] : List St71))]) (by kernel_rfl) hm (fun hc => N.app) (by kernel_rfl) ?_
   refine kC 1 [0,2,3,4,5] ?_
   refine kEN ?_
   refine kSR ?_
   refine kC 1 [0,2,3,4,5,20] ?_
   obtain ⟨y132, hy133, h134⟩ := bindS h131
   refine kCG (some 21) (args := [.ptr 0 0]) (v := .str y132.1) (H2 := [.box [.str x0, .int .i64 y132.2], vecL (encL encSt71 4) 1 69 s75.2.1, .gone, .box (encSt71 y122.1), vecL encSt71 4 72 ([y122.1] : List St71), vecL encSt71 4 72 (s75.2.2 ++ ([y122.1] : List St71))]) [0] (rule_reader__word_s0_ok hy133) ?_
   refine kC 1 [0,2,3,4,5,8] ?_
   refine kEN ?_
   refine kSR ?_
   refine kC 1 [0,2,3,4,5,8,22] ?_
   refine kEN ?_
   refine kb 2 ?_
   refine kSR ?_
   refine RJ.seg 2 [0, 2, 3, 4, 5, 8, 22, 23] (L2 := [(0, .ptr 0 0), (2, .nl), (3, .bool false), (4, .vc 1), (5, .vc 5), (8, .str y132.1), (22, .str y132.1), (23, .bool (y132.1 == ([97, 110, 100] : List UInt8)))]) (H2 := [.box [.str x0, .int .i64 y132.2], vecL (encL encSt71 4) 1 69 s75.2.1, .gone, .box (encSt71 y122.1), vecL encSt71 4 72 ([y122.1] : List St71), vecL encSt71 4 72 (s75.2.2 ++ ([y122.1] : List St71))]) (by kernel_rfl) ?_
   refine kEN ?_
   refine kBJ 23 h134 (fun h136 => ?_) (fun h137 => ?_)
   ·refine kT ?_
    refine kR ?_
    refine kC 10 [0,2,3,4,5] ?_
    refine kE ?_
    refine PJ.blockNormal ?_
    refine PJ.blockNormal ?_
    obtain rfl := oi h136
    refine kW (L2 := [(0, .ptr 0 0), (2, .nl), (3, .bool false), (4, .vc 1), (5, .vc 2)]) (H2 := [.box [.str x0, .int .i64 ((IntKind.wrap .i64 (y132.2 + (y132.1.length : Int))))], vecL (encL encSt71 4) 1 69 s75.2.1, vecL encSt71 4 72 (s75.2.2 ++ ([y122.1] : List St71))]) hFH hFD [0, 1, 5] ?_
    exact kLN [0, 2, 3, 4, 5]
   ·refine kF ?_
    refine kSR ?_
    refine kC 2 [0,2,3,4,5,8,34] ?_
    refine kEN ?_
    refine kBJ 34 h137 (fun h139 => ?_) (fun h140 => ?_)
    ·refine kT ?_
     refine kSR ?_
     refine kC 10 [0,2,3,4,5] ?_
     refine kEN ?_
     refine kSR ?_
     refine kC 2 [0,2,3,4,5,45,46] ?_
     refine RJ.wk (Wk.freeze 5 (n := (s75.2.2 ++ ([y122.1] : List St71)).length) (k := 4) (e := 72) (cs := (s75.2.2 ++ ([y122.1] : List St71)).flatMap encSt71) (by kernel_rfl)) ?_
     refine kC 1 [0,2,3,4,5,45,47] ?_
     obtain ⟨hm, h141⟩ := asrt h139
     refine RJ.rel (d := (some 48)) (ef := ⟨.vc 7, [1, 6], [(1, .gone), (7, .vec (s75.2.1.length + (([(s75.2.2 ++ ([y122.1] : List St71))] : List (List St71))).length) 1 69 (s75.2.1.flatMap (encL encSt71 4) ++ (([(s75.2.2 ++ ([y122.1] : List St71))] : List (List St71))).flatMap (encL encSt71 4)))]⟩) (ef' := ⟨.vc 7, [1, 6], [(1, .gone), (7, vecL (encL encSt71 4) 1 69 (s75.2.1 ++ (([(s75.2.2 ++ ([y122.1] : List St71))] : List (List St71)))))]⟩) (c := room (s75.2.1.length + (([(s75.2.2 ++ ([y122.1] : List St71))] : List (List St71))).length)) (tr2 := []) (H2 := [.box [.str x0, .int .i64 ((IntKind.wrap .i64 (y132.2 + (y132.1.length : Int))))], .gone, .gone, .box (encSt71 y122.1), vecL encSt71 4 72 ([y122.1] : List St71), .gone, vecL (encL encSt71 4) 1 69 (([(s75.2.2 ++ ([y122.1] : List St71))] : List (List St71))), vecL (encL encSt71 4) 1 69 ((s75.2.1 ++ (([(s75.2.2 ++ ([y122.1] : List St71))] : List (List St71)))))]) (by kernel_rfl) hm (fun hc => N.app) (by kernel_rfl) ?_
     refine kC 1 [0,2,3,4,5] ?_
     refine kEN ?_
     refine kR ?_
     refine kC 1 [0,2,3,4,5] ?_
     refine kE ?_
     refine PJ.blockNormal ?_
     refine PJ.blockNormal ?_
     obtain rfl := oi h141
     refine PJ.wk (Wk.viv 5 4 72 (by kernel_rfl)) ?_
     refine kW (L2 := [(0, .ptr 0 0), (2, .nl), (3, .bool false), (4, .vc 1), (5, .vc 2)]) (H2 := [.box [.str x0, .int .i64 ((IntKind.wrap .i64 (y132.2 + (y132.1.length : Int))))], vecL (encL encSt71 4) 1 69 ((s75.2.1 ++ (([(s75.2.2 ++ ([y122.1] : List St71))] : List (List St71))))), vecL encSt71 4 72 ([] : List St71)]) hFH hFD [0, 7, 8] ?_
     exact kLN [0, 2, 3, 4, 5]
    ·refine kF ?_
     refine K.exit 0 (by kernel_rfl) ?_
     refine PJ.blockPass (by kernel_rfl) ?_
     refine PJ.blockPass (by kernel_rfl) ?_
     obtain rfl := oi h140
     refine PJ.loopOut (fun e => nomatch e) (fun he143 => ?_)
     have h142 := congrArg some he143
     refine PJ.blockOut ?_
     obtain rfl := oi h142
     refine kW (L2 := [(0, .ptr 0 0), (2, .nl), (3, .bool false), (4, .vc 1), (5, .vc 2)]) (H2 := [.box [.str x0, .int .i64 y132.2], vecL (encL encSt71 4) 1 69 s75.2.1, vecL encSt71 4 72 (s75.2.2 ++ ([y122.1] : List St71))]) hFH hFD [0, 1, 5] ?_
     exact kXl [0, 2, 3, 4, 5]
 ·subst hs
  have h74 := joinX_inl h73
  refine kS ?_
  refine J.wk (Wk.freeze 2 (n := s70.2.2.length) (k := 4) (e := 72) (cs := s70.2.2.flatMap encSt71) (by kernel_rfl)) ?_
  refine J.keep [0, 2, 3, 4, 5] (L2 := [(0, .ptr 0 0), (2, .nl), (3, .bool false), (4, .vc 1), (5, lsv encSt71 4 s70.2.2)]) (by kernel_rfl) ?_
  refine K.draw (by kernel_rfl) (by kernel_rfl) (by kernel_rfl) (H2 := [.box [.str x0, .int .i64 s70.1], vecL (encL encSt71 4) 1 69 s70.2.1, .gone, .res, .res]) (by kernel_rfl) (n := 3) (by kernel_rfl) ?_
  refine kD 3 ?_
  obtain ⟨hm, h144⟩ := asrt h74
  refine RJ.rel (d := (some 52)) (ef := ⟨.vc 4, [1, 3], [(1, .gone), (4, .vec (s70.2.1.length + ([s70.2.2] : List (List St71)).length) 1 69 (s70.2.1.flatMap (encL encSt71 4) ++ ([s70.2.2] : List (List St71)).flatMap (encL encSt71 4)))]⟩) (ef' := ⟨.vc 4, [1, 3], [(1, .gone), (4, vecL (encL encSt71 4) 1 69 (s70.2.1 ++ ([s70.2.2] : List (List St71))))]⟩) (c := room (s70.2.1.length + ([s70.2.2] : List (List St71)).length)) (tr2 := [([], []), ([], []), ([], [6, 7, 6, 7]), ([2, 3, 6, 7], [2, 3, 8, 9, 8, 9])]) (H2 := [.box [.str x0, .int .i64 s70.1], .gone, .gone, vecL (encL encSt71 4) 1 69 ([s70.2.2] : List (List St71)), vecL (encL encSt71 4) 1 69 ((s70.2.1 ++ ([s70.2.2] : List (List St71))))]) (by kernel_rfl) hm (fun hc => N.app) (by kernel_rfl) ?_
  refine kD 12 ?_
  refine kEN ?_
  refine kX ?_
  refine PJ.scR ?_
  obtain rfl := oi h144
  refine PJ.wk (Wk.freeze 4 (n := ((s70.2.1 ++ ([s70.2.2] : List (List St71)))).length) (k := 1) (e := 69) (cs := ((s70.2.1 ++ ([s70.2.2] : List (List St71)))).flatMap (encL encSt71 4)) (by kernel_rfl)) ?_
  exact kV [0] hFn hFH hFD (v1 := .tup [lsv (encL encSt71 4) 1 ((s70.2.1 ++ ([s70.2.2] : List (List St71)))), .bool ((decide (s70.1 = (x0.length : Int))))])
def rule_tooMany (x0 : List (List St71)) : Option (Bool) :=
 (Option.bind (loopN (fun (s333 : Int × Int) => (bif (decide (s333.2 < (x0.length : Int))) then (Option.bind (bif inR s333.2 x0.length then (loopN (fun (s610 : Int) => (bif (decide (s610 < ((nth x0 s333.2).length : Int))) then (bif inR s610 (nth x0 s333.2).length then (bif (decide (((((nth (nth x0 s333.2) s610).R_).length : Int)) > 20)) then (some (.inr (.inr (.inr (.inr true))))) else (some (.inl (IntKind.wrap .i64 (s610 + 1))))) else none) else (some (.inr (.inl ()))))) big 0) else none) (joinX fun (s604 : Unit) => (some (.inl ((IntKind.wrap .i64 (s333.1 + ((nth x0 s333.2).length : Int))), (IntKind.wrap .i64 (s333.2 + 1))))))) else (some (.inr (.inl s333.1))))) big (0, 0)) (joinX fun (s328 : Int) => (some (decide (s328 > 20)))))
theorem rule_tooMany_ok {x0 : List (List St71)} {r : Bool} (h : rule_tooMany x0 = some r) : SC Tryd.prog 30 [lsv (encL encSt71 4) 1 x0] [] (.bool r) [] := by
 refine kFn (fn := Tryd.f30) (fun F hFn hFH hFD => ?_)
 unfold rule_tooMany at h
 refine kSR ?_
 refine kC 1 [0,2] ?_
 refine kEN ?_
 refine kSR ?_
 refine kC 1 [0,2,3] ?_
 refine kEN ?_
 obtain ⟨y329, hy330, h331⟩ := bindS h
 refine K.cutX (by kernel_rfl) (fun (s328 : Int) => ([(2, .bool false), (3, .int .i64 s328)], [])) y329 ?_ (fun s328 hs => ?_)
 ·refine kSR ?_
  refine kC 3 [2,3,8,9,10] ?_
  refine kEN ?_
  refine kb 0 ?_
  refine kl (fun (s333 : Int × Int) => ([(2, .bool false), (3, .int .i64 s333.1), (8, lsv (encL encSt71 4) 1 x0), (9, .int .i64 (x0.length : Int)), (10, .int .i64 s333.2)], [])) hy330 [2, 3, 8, 9, 10] (fun s333 x551 hs550 => ?_)
  refine kSR ?_
  refine kC 1 [2,3,8,9,10,11] ?_
  refine kEN ?_
  refine kS ?_
  refine kBJ 11 hs550 (fun h553 => ?_) (fun h554 => ?_)
  ·refine kT ?_
   refine kK ?_
   refine PJ.next ?_
   obtain ⟨y605, hy606, h607⟩ := bindS h553
   refine K.cutX (by kernel_rfl) (fun (s604 : Unit) => ([(2, .bool false), (3, .int .i64 ((IntKind.wrap .i64 (s333.1 + ((nth x0 s333.2).length : Int))))), (8, lsv (encL encSt71 4) 1 x0), (9, .int .i64 (x0.length : Int)), (10, .int .i64 s333.2)], [])) y605 ?_ (fun s604 hs => ?_)
   ·refine kb 1 ?_
    refine kSR ?_
    obtain ⟨hm, h609⟩ := asrt hy606
    refine kI 12 (encL_len encSt71 4) hm ?_
    refine kC 2 [2,3,5,8,9,10] ?_
    refine kEN ?_
    refine kSR ?_
    refine kC 5 [2,3,5,8,9,10] ?_
    refine kEN ?_
    refine kSR ?_
    refine kC 3 [2,3,8,9,10,18,19,20] ?_
    refine kEN ?_
    refine kb 2 ?_
    refine kl (fun (s610 : Int) => ([(2, .bool false), (3, .int .i64 ((IntKind.wrap .i64 (s333.1 + ((nth x0 s333.2).length : Int))))), (8, lsv (encL encSt71 4) 1 x0), (9, .int .i64 (x0.length : Int)), (10, .int .i64 s333.2), (18, lsv encSt71 4 (nth x0 s333.2)), (19, .int .i64 ((nth x0 s333.2).length : Int)), (20, .int .i64 s610)], [])) h609 [2, 3, 8, 9, 10, 18, 19, 20] (fun s610 x642 hs641 => ?_)
    refine kSR ?_
    refine kC 1 [2,3,8,9,10,18,19,20,21] ?_
    refine kEN ?_
    refine kS ?_
    refine kBJ 21 hs641 (fun h644 => ?_) (fun h645 => ?_)
    ·refine kT ?_
     refine kK ?_
     refine PJ.next ?_
     refine kS ?_
     refine kb 3 ?_
     refine kSR ?_
     obtain ⟨hm, h646⟩ := asrt h644
     refine kI 22 encSt71_len hm ?_
     refine kC 3 [2,3,7,8,9,10,18,19,20] ?_
     refine kEN ?_
     refine kSR ?_
     refine kC 4 [2,3,8,9,10,18,19,20,27] ?_
     refine kEN ?_
     refine kBJ 27 h646 (fun h648 => ?_) (fun h649 => ?_)
     ·refine kT ?_
      refine kSR ?_
      refine kC 1 [2,3,8,9,10,18,19,20] ?_
      refine kEN ?_
      refine kX ?_
      refine PJ.blockRet ?_
      refine PJ.passRet ?_
      obtain rfl := oi h648
      refine PJ.loopOut (fun e => nomatch e) (fun he655 => ?_)
      have h650 := congrArg some he655
      refine PJ.blockRet ?_
      refine PJ.blockRet ?_
      obtain rfl := oi h650
      have h651 := joinX_inr h607
      refine PJ.cutXr (fun e => nomatch e) ?_
      obtain rfl := oi h651
      refine PJ.loopOut (fun e => nomatch e) (fun he654 => ?_)
      have h652 := congrArg some he654
      refine PJ.blockRet ?_
      obtain rfl := oi h652
      have h653 := joinX_inr h331
      refine PJ.cutXr (fun e => nomatch e) ?_
      obtain rfl := oi h653
      exact kZ hFn hFH hFD
     ·refine kF ?_
      refine kK ?_
      refine PJ.blockNormal ?_
      refine PJ.next ?_
      refine kR ?_
      refine kC 2 [2,3,8,9,10,18,19,20] ?_
      refine kE ?_
      obtain rfl := oi h649
      refine kW (L2 := [(2, .bool false), (3, .int .i64 ((IntKind.wrap .i64 (s333.1 + ((nth x0 s333.2).length : Int))))), (8, lsv (encL encSt71 4) 1 x0), (9, .int .i64 (x0.length : Int)), (10, .int .i64 s333.2), (18, lsv encSt71 4 (nth x0 s333.2)), (19, .int .i64 ((nth x0 s333.2).length : Int)), (20, .int .i64 (IntKind.wrap .i64 (s610 + 1)))]) (H2 := []) hFH hFD [] ?_
      exact kLN [2, 3, 8, 9, 10, 18, 19, 20]
    ·refine kF ?_
     refine K.exit 2 (by kernel_rfl) ?_
     refine PJ.passExit ?_
     obtain rfl := oi h645
     refine PJ.loopOut (fun e => nomatch e) (fun he657 => ?_)
     have h656 := congrArg some he657
     refine PJ.blockOut ?_
     refine PJ.blockNormal ?_
     obtain rfl := oi h656
     exact kXl [2, 3, 8, 9, 10]
   ·subst hs
    have h608 := joinX_inl h607
    refine kR ?_
    refine kC 2 [2,3,8,9,10] ?_
    refine kE ?_
    obtain rfl := oi h608
    exact kLN [2, 3, 8, 9, 10]
  ·refine kF ?_
   refine K.exit 0 (by kernel_rfl) ?_
   refine PJ.passExit ?_
   obtain rfl := oi h554
   refine PJ.loopOut (fun e => nomatch e) (fun he659 => ?_)
   have h658 := congrArg some he659
   refine PJ.blockOut ?_
   obtain rfl := oi h658
   exact kXl [2, 3]
 ·subst hs
  have h332 := joinX_inl h331
  refine kSR ?_
  refine kC 3 [2] ?_
  refine kEN ?_
  refine kX ?_
  obtain rfl := oi h332
  exact kZ hFn hFH hFD
def rule_Parse (x0 : List UInt8) : Option ((List (List St71)) × Int × Int) :=
 (bif (decide ((x0.length : Int) > 400)) then (some (([] : List (List St71)), 0, 11)) else (Option.bind (rule_reader__rows_s0 x0 0) fun y4 => (bif (!y4.2.1) then (some (([] : List (List St71)), y4.2.2, 2)) else (Option.bind (rule_tooMany y4.1) fun y10 => (bif y10 then (some (([] : List (List St71)), 0, 11)) else (some (y4.1, 0, 0)))))))
theorem rule_Parse_ok {x0 : List UInt8} {r : (List (List St71)) × Int × Int} (h : rule_Parse x0 = some r) : SC Tryd.prog 19 [.str x0] [] (.tup [lsv (encL encSt71 4) 1 r.1, .int .i64 r.2.1, .int .i64 r.2.2]) [] := by
 refine kFn (fn := Tryd.f19) (fun F hFn hFH hFD => ?_)
 unfold rule_Parse at h
 refine kSR ?_
 refine kC 3 [0,2,3,4] ?_
 refine kEN ?_
 refine kS ?_
 refine kSR ?_
 refine kC 3 [0,2,3,4,10] ?_
 refine kEN ?_
 refine kBJ 10 h (fun h2 => ?_) (fun h3 => ?_)
 ·refine kT ?_
  refine kSR ?_
  refine kC 3 [0,2,3,4] ?_
  refine kEN ?_
  refine kX ?_
  refine PJ.passRet ?_
  obtain rfl := oi h2
  refine PJ.res (v1 := .tup [.nl, .int .i64 0, .int .i64 11]) (Le.tup (.cons (Le.nl _) (.cons (Le.refl _) (.cons (Le.refl _) .nil)))) ?_
  exact kZ hFn hFH hFD
 ·refine kF ?_
  refine kK ?_
  refine PJ.next ?_
  refine kSR ?_
  refine kC 4 [2,3,4,5] ?_
  refine kEN ?_
  refine kSR ?_
  refine kC 1 [2,3,4,5,15] ?_
  obtain ⟨y4, hy5, h6⟩ := bindS h3
  refine kCG (some 16) (args := [.ptr 0 0]) (v := .tup [lsv (encL encSt71 4) 1 y4.1, .bool y4.2.1]) (H2 := [.box [.str x0, .int .i64 y4.2.2]]) [0] (rule_reader__rows_s0_ok hy5) ?_
  refine kC 5 [2,3,4,5,6,7] ?_
  refine kEN ?_
  refine kS ?_
  refine kSR ?_
  refine kC 2 [2,3,4,5,6,20] ?_
  refine kEN ?_
  refine kBJ 20 h6 (fun h8 => ?_) (fun h9 => ?_)
  ·refine kT ?_
   refine kS ?_
   refine J.keep [2, 3, 4, 5, 6] (L2 := [(2, .nl), (3, .int .i64 0), (4, .int .i64 0), (5, .ptr 0 0), (6, lsv (encL encSt71 4) 1 y4.1)]) (by kernel_rfl) ?_
   refine K.draw (by kernel_rfl) (by kernel_rfl) (by kernel_rfl) (H2 := [.box [.str x0, .int .i64 y4.2.2]]) (by kernel_rfl) (n := 1) (by kernel_rfl) ?_
   refine kD 7 ?_
   refine kEN ?_
   refine kX ?_
   refine PJ.passRet ?_
   obtain rfl := oi h8
   refine PJ.res (v1 := .tup [.nl, .int .i64 y4.2.2, .int .i64 2]) (Le.tup (.cons (Le.nl _) (.cons (Le.refl _) (.cons (Le.refl _) .nil)))) ?_
   exact kZ hFn hFH hFD
  ·refine kF ?_
   refine kK ?_
   refine PJ.next ?_
   refine kS ?_
   refine kSR ?_
   refine kC 1 [2,3,4,6,25] ?_
   obtain ⟨y10, hy11, h12⟩ := bindS h9
   refine kA 26 (rule_tooMany_ok hy11) ?_
   refine kEN ?_
   refine kBJ 26 h12 (fun h14 => ?_) (fun h15 => ?_)
   ·refine kT ?_
    refine kSR ?_
    refine kC 3 [2,3,4,6] ?_
    refine kEN ?_
    refine kX ?_
    refine PJ.passRet ?_
    obtain rfl := oi h14
    refine PJ.res (v1 := .tup [.nl, .int .i64 0, .int .i64 11]) (Le.tup (.cons (Le.nl _) (.cons (Le.refl _) (.cons (Le.refl _) .nil)))) ?_
    exact kZ hFn hFH hFD
   ·refine kF ?_
    refine kK ?_
    refine PJ.next ?_
    refine kSR ?_
    refine kC 4 [2,3,4] ?_
    refine kEN ?_
    refine kX ?_
    obtain rfl := oi h15
    exact kZ hFn hFH hFD
def k0_ : List UInt8 := [48, 48, 48, 49, 48, 50, 48, 51, 48, 52, 48, 53, 48, 54, 48, 55, 48, 56, 48, 57, 49, 48, 49, 49, 49, 50, 49, 51, 49, 52, 49, 53, 49, 54, 49, 55, 49, 56, 49, 57, 50, 48, 50, 49, 50, 50, 50, 51, 50, 52, 50, 53, 50, 54, 50, 55, 50, 56, 50, 57, 51, 48, 51, 49, 51, 50, 51, 51, 51, 52, 51, 53, 51, 54, 51, 55, 51, 56, 51, 57, 52, 48, 52, 49, 52, 50, 52, 51, 52, 52, 52, 53, 52, 54, 52, 55, 52, 56, 52, 57, 53, 48, 53, 49, 53, 50, 53, 51, 53, 52, 53, 53, 53, 54, 53, 55, 53, 56, 53, 57, 54, 48, 54, 49, 54, 50, 54, 51, 54, 52, 54, 53, 54, 54, 54, 55, 54, 56, 54, 57, 55, 48, 55, 49, 55, 50, 55, 51, 55, 52, 55, 53, 55, 54, 55, 55, 55, 56, 55, 57, 56, 48, 56, 49, 56, 50, 56, 51, 56, 52, 56, 53, 56, 54, 56, 55, 56, 56, 56, 57, 57, 48, 57, 49, 57, 50, 57, 51, 57, 52, 57, 53, 57, 54, 57, 55, 57, 56, 57, 57]
def strconv_small (x0 : Int) : Option (List UInt8) :=
 (bif (decide (x0 < 10)) then (bif inS x0 (IntKind.wrap .i64 (x0 + 1)) ([48, 49, 50, 51, 52, 53, 54, 55, 56, 57, 97, 98, 99, 100, 101, 102, 103, 104, 105, 106, 107, 108, 109, 110, 111, 112, 113, 114, 115, 116, 117, 118, 119, 120, 121, 122] : List UInt8).length then (some (cut ([48, 49, 50, 51, 52, 53, 54, 55, 56, 57, 97, 98, 99, 100, 101, 102, 103, 104, 105, 106, 107, 108, 109, 110, 111, 112, 113, 114, 115, 116, 117, 118, 119, 120, 121, 122] : List UInt8) x0 (IntKind.wrap .i64 (x0 + 1)))) else none) else (bif inS (IntKind.wrap .i64 (x0 * 2)) ((IntKind.wrap .i64 ((IntKind.wrap .i64 (x0 * 2)) + 2))) k0_.length then (some (cut k0_ (IntKind.wrap .i64 (x0 * 2)) ((IntKind.wrap .i64 ((IntKind.wrap .i64 (x0 * 2)) + 2))))) else none))
theorem strconv_small_ok {x0 : Int} {r : List UInt8} (h : strconv_small x0 = some r) : SC Tryd.prog 93 [.int .i64 x0] [] (.str r) [] := by
 refine kFn (fn := Tryd.f93) (fun F hFn hFH hFD => ?_)
 unfold strconv_small at h
 refine kSR ?_
 refine kC 1 [0,2] ?_
 refine kEN ?_
 refine kS ?_
 refine kSR ?_
 refine kC 2 [0,2,4] ?_
 refine kEN ?_
 refine kBJ 4 h (fun h2 => ?_) (fun h3 => ?_)
 ·refine kT ?_
  refine kSR ?_
  refine kC 3 [0,2,5,7] ?_
  obtain ⟨hm, h4⟩ := asrt h2
  refine kQ 8 (.str (cut ([48, 49, 50, 51, 52, 53, 54, 55, 56, 57, 97, 98, 99, 100, 101, 102, 103, 104, 105, 106, 107, 108, 109, 110, 111, 112, 113, 114, 115, 116, 117, 118, 119, 120, 121, 122] : List UInt8) x0 (IntKind.wrap .i64 (x0 + 1)))) [] (tr2 := []) hm ?_
  refine kC 1 [0,2] ?_
  refine kEN ?_
  refine kX ?_
  refine PJ.passRet ?_
  obtain rfl := oi h4
  exact kZ hFn hFH hFD
 ·refine kF ?_
  refine kK ?_
  refine PJ.next ?_
  refine kSR ?_
  refine kC 5 [2,10,13] ?_
  obtain ⟨hm, h5⟩ := asrt h3
  refine kQ 14 (.str (cut k0_ (IntKind.wrap .i64 (x0 * 2)) ((IntKind.wrap .i64 ((IntKind.wrap .i64 (x0 * 2)) + 2))))) [] (tr2 := []) hm ?_
  refine kC 1 [2] ?_
  refine kEN ?_
  refine kX ?_
  obtain rfl := oi h5
  exact kZ hFn hFH hFD
def k1_ : List UInt8 := [0, 1, 2, 2, 3, 3, 3, 3, 4, 4, 4, 4, 4, 4, 4, 4, 5, 5, 5, 5, 5, 5, 5, 5, 5, 5, 5, 5, 5, 5, 5, 5, 6, 6, 6, 6, 6, 6, 6, 6, 6, 6, 6, 6, 6, 6, 6, 6, 6, 6, 6, 6, 6, 6, 6, 6, 6, 6, 6, 6, 6, 6, 6, 6, 7, 7, 7, 7, 7, 7, 7, 7, 7, 7, 7, 7, 7, 7, 7, 7, 7, 7, 7, 7, 7, 7, 7, 7, 7, 7, 7, 7, 7, 7, 7, 7, 7, 7, 7, 7, 7, 7, 7, 7, 7, 7, 7, 7, 7, 7, 7, 7, 7, 7, 7, 7, 7, 7, 7, 7, 7, 7, 7, 7, 7, 7, 7, 7, 8, 8, 8, 8, 8, 8, 8, 8, 8, 8, 8, 8, 8, 8, 8, 8, 8, 8, 8, 8, 8, 8, 8, 8, 8, 8, 8, 8, 8, 8, 8, 8, 8, 8, 8, 8, 8, 8, 8, 8, 8, 8, 8, 8, 8, 8, 8, 8, 8, 8, 8, 8, 8, 8, 8, 8, 8, 8, 8, 8, 8, 8, 8, 8, 8, 8, 8, 8, 8, 8, 8, 8, 8, 8, 8, 8, 8, 8, 8, 8, 8, 8, 8, 8, 8, 8, 8, 8, 8, 8, 8, 8, 8, 8, 8, 8, 8, 8, 8, 8, 8, 8, 8, 8, 8, 8, 8, 8, 8, 8, 8, 8, 8, 8, 8, 8, 8, 8, 8, 8, 8, 8, 8, 8, 8, 8, 8, 8]
def bits_Len64 (x0 : Int) : Option (Int) :=
 (Option.bind (bif (decide (x0 ≥ 4294967296)) then (some ((Int.fdiv x0 4294967296), 32)) else (some (x0, 0))) fun (s4 : Int × Int) => (Option.bind (bif (decide (s4.1 ≥ 65536)) then (some ((Int.fdiv s4.1 65536), (IntKind.wrap .i64 (s4.2 + 16)))) else (some (s4.1, s4.2))) fun (s15 : Int × Int) => (Option.bind (bif (decide (s15.1 ≥ 256)) then (some ((Int.fdiv s15.1 256), (IntKind.wrap .i64 (s15.2 + 8)))) else (some (s15.1, s15.2))) fun (s26 : Int × Int) => (bif inR (IntKind.wrap .u8 s26.1) k1_.length then (some (IntKind.wrap .i64 (s26.2 + ((IntKind.wrap .i64 ((((k1_.getD ((IntKind.wrap .u8 s26.1) : Int).toNat 0).toNat : Nat) : Int))))))) else none))))
theorem bits_Len64_ok {x0 : Int} {r : Int} (h : bits_Len64 x0 = some r) : SC Tryd.prog 104 [.int .u64 x0] [] (.int .i64 r) [] := by
 refine kFn (fn := Tryd.f104) (fun F hFn hFH hFD => ?_)
 unfold bits_Len64 at h
 refine kSR ?_
 refine kC 1 [0,2] ?_
 refine kEN ?_
 obtain ⟨s4, hy6, h8⟩ := bindS h
 refine K.cutN (by kernel_rfl) (fun (s4 : Int × Int) => ([(0, .int .u64 s4.1), (2, .int .i64 s4.2)], [])) s4 ?_ ?_
 ·refine kSR ?_
  refine kC 2 [0,2,4] ?_
  refine kEN ?_
  refine kBJ 4 hy6 (fun h10 => ?_) (fun h11 => ?_)
  ·refine kT ?_
   refine kSR ?_
   refine kC 3 [0,2] ?_
   refine kEN ?_
   refine kR ?_
   refine kC 1 [0,2] ?_
   refine kE ?_
   obtain rfl := oi h10
   exact kN [0, 2]
  ·refine kF ?_
   refine kK ?_
   obtain rfl := oi h11
   exact kN [0, 2]
 ·obtain ⟨s15, hy17, h19⟩ := bindS h8
  refine K.cutN (by kernel_rfl) (fun (s15 : Int × Int) => ([(0, .int .u64 s15.1), (2, .int .i64 s15.2)], [])) s15 ?_ ?_
  ·refine kSR ?_
   refine kC 2 [0,2,8] ?_
   refine kEN ?_
   refine kBJ 8 hy17 (fun h21 => ?_) (fun h22 => ?_)
   ·refine kT ?_
    refine kSR ?_
    refine kC 3 [0,2] ?_
    refine kEN ?_
    refine kR ?_
    refine kC 3 [0,2] ?_
    refine kE ?_
    obtain rfl := oi h21
    exact kN [0, 2]
   ·refine kF ?_
    refine kK ?_
    obtain rfl := oi h22
    exact kN [0, 2]
  ·obtain ⟨s26, hy28, h30⟩ := bindS h19
   refine K.cutN (by kernel_rfl) (fun (s26 : Int × Int) => ([(0, .int .u64 s26.1), (2, .int .i64 s26.2)], [])) s26 ?_ ?_
   ·refine kSR ?_
    refine kC 2 [0,2,14] ?_
    refine kEN ?_
    refine kBJ 14 hy28 (fun h32 => ?_) (fun h33 => ?_)
    ·refine kT ?_
     refine kSR ?_
     refine kC 3 [0,2] ?_
     refine kEN ?_
     refine kR ?_
     refine kC 3 [0,2] ?_
     refine kE ?_
     obtain rfl := oi h32
     exact kN [0, 2]
    ·refine kF ?_
     refine kK ?_
     obtain rfl := oi h33
     exact kN [0, 2]
   ·refine kSR ?_
    refine kC 3 [2,19,21] ?_
    obtain ⟨hm, h34⟩ := asrt h30
    refine kG 22 hm ?_
    refine kC 3 [2] ?_
    refine kEN ?_
    refine kX ?_
    obtain rfl := oi h34
    exact kZ hFn hFH hFD
def strconv_log10Pow2 (x0 : Int) : Option (Int) :=
 (some (Int.fdiv (IntKind.wrap .i64 (x0 * 78913)) 262144))
theorem strconv_log10Pow2_ok {x0 : Int} {r : Int} (h : strconv_log10Pow2 x0 = some r) : SC Tryd.prog 103 [.int .i64 x0] [] (.int .i64 r) [] := by
 refine kFn (fn := Tryd.f103) (fun F hFn hFH hFD => ?_)
 unfold strconv_log10Pow2 at h
 refine kSR ?_
 refine kC 1 [0,2] ?_
 refine kEN ?_
 refine kSR ?_
 refine kC 4 [2] ?_
 refine kEN ?_
 refine kX ?_
 obtain rfl := oi h
 exact kZ hFn hFH hFD
def k2_ : List Int := [1, 10, 100, 1000, 10000, 100000, 1000000, 10000000, 100000000, 1000000000, 10000000000, 100000000000, 1000000000000, 10000000000000, 100000000000000, 1000000000000000, 10000000000000000, 100000000000000000, 1000000000000000000, 10000000000000000000]
def strconv_bool2 (x0 : Bool) : Option (Int) :=
 (bif x0 then (some 1) else (some 0))
theorem strconv_bool2_ok {x0 : Bool} {r : Int} (h : strconv_bool2 x0 = some r) : SC Tryd.prog 105 [.bool x0] [] (.int .i64 r) [] := by
 refine kFn (fn := Tryd.f105) (fun F hFn hFH hFD => ?_)
 unfold strconv_bool2 at h
 refine kSR ?_
 refine kC 1 [0,2] ?_
 refine kEN ?_
 refine kS ?_
 refine kSR ?_
 refine kC 1 [2,3] ?_
 refine kEN ?_
 refine kBJ 3 h (fun h2 => ?_) (fun h3 => ?_)
 ·refine kT ?_
  refine kSR ?_
  refine kC 1 [2] ?_
  refine kEN ?_
  refine kX ?_
  refine PJ.passRet ?_
  obtain rfl := oi h2
  exact kZ hFn hFH hFD
 ·refine kF ?_
  refine kK ?_
  refine PJ.next ?_
  refine kSR ?_
  refine kC 1 [2] ?_
  refine kEN ?_
  refine kX ?_
  obtain rfl := oi h3
  exact kZ hFn hFH hFD
def strconv_numDigits (x0 : Int) : Option (Int) :=
 (Option.bind (bits_Len64 x0) fun y1 => (Option.bind (strconv_log10Pow2 y1) fun y4 => (bif inR y4 20 then (Option.bind (strconv_bool2 ((decide (x0 ≥ (nth k2_ y4))))) fun y8 => (some (IntKind.wrap .i64 (y4 + y8)))) else none)))
theorem strconv_numDigits_ok {x0 : Int} {r : Int} (h : strconv_numDigits x0 = some r) : SC Tryd.prog 94 [.int .u64 x0] [] (.int .i64 r) [] := by
 refine kFn (fn := Tryd.f94) (fun F hFn hFH hFD => ?_)
 unfold strconv_numDigits at h
 refine kSR ?_
 refine kC 1 [0,2] ?_
 refine kEN ?_
 refine kSR ?_
 refine kC 1 [0,2,4] ?_
 obtain ⟨y1, hy2, h3⟩ := bindS h
 refine kA 5 (bits_Len64_ok hy2) ?_
 obtain ⟨y4, hy5, h6⟩ := bindS h3
 refine kA 6 (strconv_log10Pow2_ok hy5) ?_
 refine kC 1 [0,2,3] ?_
 refine kEN ?_
 refine kSR ?_
 refine kC 3 [2,7,8,9] ?_
 obtain ⟨hm, h7⟩ := asrt h6
 refine RJ.rel (d := (some 10)) (ef := ⟨.ep (((k2_.flatMap (encI .u64)).drop ((y4 : Int).toNat * 1)).take 1), [], []⟩) (ef' := ⟨.ep ((encI .u64) (nth k2_ y4)), [], []⟩) (c := inR y4 20) (tr2 := []) (H2 := []) (by kernel_rfl) hm (fun hc => N.idx (encI_len .u64) hc) (by kernel_rfl) ?_
 refine kC 2 [2,7,12] ?_
 obtain ⟨y8, hy9, h10⟩ := bindS h7
 refine kA 13 (strconv_bool2_ok hy9) ?_
 refine kC 2 [2] ?_
 refine kEN ?_
 refine kX ?_
 obtain rfl := oi h10
 exact kZ hFn hFH hFD
def strconv_formatBase10_s0 (x0 : Int) (x1 : Int) (x2 : List Int) : Option ((List Int)) :=
 (Option.bind (loopN (fun (s96 : Int × Int × (List Int)) => (bif (decide (s96.2.1 ≥ 8)) then (bif inR ((IntKind.wrap .u32 (((IntKind.wrap .u32 (((Int.tmod ((Int.tmod (IntKind.wrap .u32 (Int.tmod s96.1 100000000)) 10000)) 100)) * 2))) + 1))) k0_.length then (bif inR ((IntKind.wrap .u32 (((Int.tmod ((Int.tmod (IntKind.wrap .u32 (Int.tmod s96.1 100000000)) 10000)) 100)) * 2))) k0_.length then (bif inR (IntKind.wrap .i64 (s96.2.1 - 1)) x0.toNat then (bif inP 0 (IntKind.wrap .i64 (s96.2.1 - 1)) s96.2.2.length then (bif inR (IntKind.wrap .i64 (s96.2.1 - 2)) x0.toNat then (bif inP 0 (IntKind.wrap .i64 (s96.2.1 - 2)) ((setAt s96.2.2 ((0 : Nat) + (IntKind.wrap .i64 (s96.2.1 - 1)) : Int) ((((k0_.getD ((IntKind.wrap .u32 (((IntKind.wrap .u32 (((Int.tmod ((Int.tmod (IntKind.wrap .u32 (Int.tmod s96.1 100000000)) 10000)) 100)) * 2))) + 1)) : Int).toNat 0).toNat : Nat) : Int)))).length then (bif inR ((IntKind.wrap .u32 (((IntKind.wrap .u32 (((IntKind.wrap .u32 (Int.tdiv ((Int.tmod (IntKind.wrap .u32 (Int.tmod s96.1 100000000)) 10000)) 100))) * 2))) + 1))) k0_.length then (bif inR ((IntKind.wrap .u32 (((IntKind.wrap .u32 (Int.tdiv ((Int.tmod (IntKind.wrap .u32 (Int.tmod s96.1 100000000)) 10000)) 100))) * 2))) k0_.length then (bif inR (IntKind.wrap .i64 (s96.2.1 - 3)) x0.toNat then (bif inP 0 (IntKind.wrap .i64 (s96.2.1 - 3)) ((setAt ((setAt s96.2.2 ((0 : Nat) + (IntKind.wrap .i64 (s96.2.1 - 1)) : Int) ((((k0_.getD ((IntKind.wrap .u32 (((IntKind.wrap .u32 (((Int.tmod ((Int.tmod (IntKind.wrap .u32 (Int.tmod s96.1 100000000)) 10000)) 100)) * 2))) + 1)) : Int).toNat 0).toNat : Nat) : Int)))) ((0 : Nat) + (IntKind.wrap .i64 (s96.2.1 - 2)) : Int) ((((k0_.getD ((IntKind.wrap .u32 (((Int.tmod ((Int.tmod (IntKind.wrap .u32 (Int.tmod s96.1 100000000)) 10000)) 100)) * 2)) : Int).toNat 0).toNat : Nat) : Int)))).length then (bif inR (IntKind.wrap .i64 (s96.2.1 - 4)) x0.toNat then (bif inP 0 (IntKind.wrap .i64 (s96.2.1 - 4)) ((setAt ((setAt ((setAt s96.2.2 ((0 : Nat) + (IntKind.wrap .i64 (s96.2.1 - 1)) : Int) ((((k0_.getD ((IntKind.wrap .u32 (((IntKind.wrap .u32 (((Int.tmod ((Int.tmod (IntKind.wrap .u32 (Int.tmod s96.1 100000000)) 10000)) 100)) * 2))) + 1)) : Int).toNat 0).toNat : Nat) : Int)))) ((0 : Nat) + (IntKind.wrap .i64 (s96.2.1 - 2)) : Int) ((((k0_.getD ((IntKind.wrap .u32 (((Int.tmod ((Int.tmod (IntKind.wrap .u32 (Int.tmod s96.1 100000000)) 10000)) 100)) * 2)) : Int).toNat 0).toNat : Nat) : Int)))) ((0 : Nat) + (IntKind.wrap .i64 (s96.2.1 - 3)) : Int) ((((k0_.getD ((IntKind.wrap .u32 (((IntKind.wrap .u32 (((IntKind.wrap .u32 (Int.tdiv ((Int.tmod (IntKind.wrap .u32 (Int.tmod s96.1 100000000)) 10000)) 100))) * 2))) + 1)) : Int).toNat 0).toNat : Nat) : Int)))).length then (bif inR ((IntKind.wrap .u32 (((IntKind.wrap .u32 (((Int.tmod ((IntKind.wrap .u32 (Int.tdiv (IntKind.wrap .u32 (Int.tmod s96.1 100000000)) 10000))) 100)) * 2))) + 1))) k0_.length then (bif inR ((IntKind.wrap .u32 (((Int.tmod ((IntKind.wrap .u32 (Int.tdiv (IntKind.wrap .u32 (Int.tmod s96.1 100000000)) 10000))) 100)) * 2))) k0_.length then (bif inR (IntKind.wrap .i64 (s96.2.1 - 5)) x0.toNat then (bif inP 0 (IntKind.wrap .i64 (s96.2.1 - 5)) ((setAt ((setAt ((setAt ((setAt s96.2.2 ((0 : Nat) + (IntKind.wrap .i64 (s96.2.1 - 1)) : Int) ((((k0_.getD ((IntKind.wrap .u32 (((IntKind.wrap .u32 (((Int.tmod ((Int.tmod (IntKind.wrap .u32 (Int.tmod s96.1 100000000)) 10000)) 100)) * 2))) + 1)) : Int).toNat 0).toNat : Nat) : Int)))) ((0 : Nat) + (IntKind.wrap .i64 (s96.2.1 - 2)) : Int) ((((k0_.getD ((IntKind.wrap .u32 (((Int.tmod ((Int.tmod (IntKind.wrap .u32 (Int.tmod s96.1 100000000)) 10000)) 100)) * 2)) : Int).toNat 0).toNat : Nat) : Int)))) ((0 : Nat) + (IntKind.wrap .i64 (s96.2.1 - 3)) : Int) ((((k0_.getD ((IntKind.wrap .u32 (((IntKind.wrap .u32 (((IntKind.wrap .u32 (Int.tdiv ((Int.tmod (IntKind.wrap .u32 (Int.tmod s96.1 100000000)) 10000)) 100))) * 2))) + 1)) : Int).toNat 0).toNat : Nat) : Int)))) ((0 : Nat) + (IntKind.wrap .i64 (s96.2.1 - 4)) : Int) ((((k0_.getD ((IntKind.wrap .u32 (((IntKind.wrap .u32 (Int.tdiv ((Int.tmod (IntKind.wrap .u32 (Int.tmod s96.1 100000000)) 10000)) 100))) * 2)) : Int).toNat 0).toNat : Nat) : Int)))).length then (bif inR (IntKind.wrap .i64 (s96.2.1 - 6)) x0.toNat then (bif inP 0 (IntKind.wrap .i64 (s96.2.1 - 6)) ((setAt ((setAt ((setAt ((setAt ((setAt s96.2.2 ((0 : Nat) + (IntKind.wrap .i64 (s96.2.1 - 1)) : Int) ((((k0_.getD ((IntKind.wrap .u32 (((IntKind.wrap .u32 (((Int.tmod ((Int.tmod (IntKind.wrap .u32 (Int.tmod s96.1 100000000)) 10000)) 100)) * 2))) + 1)) : Int).toNat 0).toNat : Nat) : Int)))) ((0 : Nat) + (IntKind.wrap .i64 (s96.2.1 - 2)) : Int) ((((k0_.getD ((IntKind.wrap .u32 (((Int.tmod ((Int.tmod (IntKind.wrap .u32 (Int.tmod s96.1 100000000)) 10000)) 100)) * 2)) : Int).toNat 0).toNat : Nat) : Int)))) ((0 : Nat) + (IntKind.wrap .i64 (s96.2.1 - 3)) : Int) ((((k0_.getD ((IntKind.wrap .u32 (((IntKind.wrap .u32 (((IntKind.wrap .u32 (Int.tdiv ((Int.tmod (IntKind.wrap .u32 (Int.tmod s96.1 100000000)) 10000)) 100))) * 2))) + 1)) : Int).toNat 0).toNat : Nat) : Int)))) ((0 : Nat) + (IntKind.wrap .i64 (s96.2.1 - 4)) : Int) ((((k0_.getD ((IntKind.wrap .u32 (((IntKind.wrap .u32 (Int.tdiv ((Int.tmod (IntKind.wrap .u32 (Int.tmod s96.1 100000000)) 10000)) 100))) * 2)) : Int).toNat 0).toNat : Nat) : Int)))) ((0 : Nat) + (IntKind.wrap .i64 (s96.2.1 - 5)) : Int) ((((k0_.getD ((IntKind.wrap .u32 (((IntKind.wrap .u32 (((Int.tmod ((IntKind.wrap .u32 (Int.tdiv (IntKind.wrap .u32 (Int.tmod s96.1 100000000)) 10000))) 100)) * 2))) + 1)) : Int).toNat 0).toNat : Nat) : Int)))).length then (bif inR ((IntKind.wrap .u32 (((IntKind.wrap .u32 (((IntKind.wrap .u32 (Int.tdiv ((IntKind.wrap .u32 (Int.tdiv (IntKind.wrap .u32 (Int.tmod s96.1 100000000)) 10000))) 100))) * 2))) + 1))) k0_.length then (bif inR ((IntKind.wrap .u32 (((IntKind.wrap .u32 (Int.tdiv ((IntKind.wrap .u32 (Int.tdiv (IntKind.wrap .u32 (Int.tmod s96.1 100000000)) 10000))) 100))) * 2))) k0_.length then (bif inR (IntKind.wrap .i64 (s96.2.1 - 7)) x0.toNat then (bif inP 0 (IntKind.wrap .i64 (s96.2.1 - 7)) ((setAt ((setAt ((setAt ((setAt ((setAt ((setAt s96.2.2 ((0 : Nat) + (IntKind.wrap .i64 (s96.2.1 - 1)) : Int) ((((k0_.getD ((IntKind.wrap .u32 (((IntKind.wrap .u32 (((Int.tmod ((Int.tmod (IntKind.wrap .u32 (Int.tmod s96.1 100000000)) 10000)) 100)) * 2))) + 1)) : Int).toNat 0).toNat : Nat) : Int)))) ((0 : Nat) + (IntKind.wrap .i64 (s96.2.1 - 2)) : Int) ((((k0_.getD ((IntKind.wrap .u32 (((Int.tmod ((Int.tmod (IntKind.wrap .u32 (Int.tmod s96.1 100000000)) 10000)) 100)) * 2)) : Int).toNat 0).toNat : Nat) : Int)))) ((0 : Nat) + (IntKind.wrap .i64 (s96.2.1 - 3)) : Int) ((((k0_.getD ((IntKind.wrap .u32 (((IntKind.wrap .u32 (((IntKind.wrap .u32 (Int.tdiv ((Int.tmod (IntKind.wrap .u32 (Int.tmod s96.1 100000000)) 10000)) 100))) * 2))) + 1)) : Int).toNat 0).toNat : Nat) : Int)))) ((0 : Nat) + (IntKind.wrap .i64 (s96.2.1 - 4)) : Int) ((((k0_.getD ((IntKind.wrap .u32 (((IntKind.wrap .u32 (Int.tdiv ((Int.tmod (IntKind.wrap .u32 (Int.tmod s96.1 100000000)) 10000)) 100))) * 2)) : Int).toNat 0).toNat : Nat) : Int)))) ((0 : Nat) + (IntKind.wrap .i64 (s96.2.1 - 5)) : Int) ((((k0_.getD ((IntKind.wrap .u32 (((IntKind.wrap .u32 (((Int.tmod ((IntKind.wrap .u32 (Int.tdiv (IntKind.wrap .u32 (Int.tmod s96.1 100000000)) 10000))) 100)) * 2))) + 1)) : Int).toNat 0).toNat : Nat) : Int)))) ((0 : Nat) + (IntKind.wrap .i64 (s96.2.1 - 6)) : Int) ((((k0_.getD ((IntKind.wrap .u32 (((Int.tmod ((IntKind.wrap .u32 (Int.tdiv (IntKind.wrap .u32 (Int.tmod s96.1 100000000)) 10000))) 100)) * 2)) : Int).toNat 0).toNat : Nat) : Int)))).length then (bif inR (IntKind.wrap .i64 (s96.2.1 - 8)) x0.toNat then (bif inP 0 (IntKind.wrap .i64 (s96.2.1 - 8)) ((setAt ((setAt ((setAt ((setAt ((setAt ((setAt ((setAt s96.2.2 ((0 : Nat) + (IntKind.wrap .i64 (s96.2.1 - 1)) : Int) ((((k0_.getD ((IntKind.wrap .u32 (((IntKind.wrap .u32 (((Int.tmod ((Int.tmod (IntKind.wrap .u32 (Int.tmod s96.1 100000000)) 10000)) 100)) * 2))) + 1)) : Int).toNat 0).toNat : Nat) : Int)))) ((0 : Nat) + (IntKind.wrap .i64 (s96.2.1 - 2)) : Int) ((((k0_.getD ((IntKind.wrap .u32 (((Int.tmod ((Int.tmod (IntKind.wrap .u32 (Int.tmod s96.1 100000000)) 10000)) 100)) * 2)) : Int).toNat 0).toNat : Nat) : Int)))) ((0 : Nat) + (IntKind.wrap .i64 (s96.2.1 - 3)) : Int) ((((k0_.getD ((IntKind.wrap .u32 (((IntKind.wrap .u32 (((IntKind.wrap .u32 (Int.tdiv ((Int.tmod (IntKind.wrap .u32 (Int.tmod s96.1 100000000)) 10000)) 100))) * 2))) + 1)) : Int).toNat 0).toNat : Nat) : Int)))) ((0 : Nat) + (IntKind.wrap .i64 (s96.2.1 - 4)) : Int) ((((k0_.getD ((IntKind.wrap .u32 (((IntKind.wrap .u32 (Int.tdiv ((Int.tmod (IntKind.wrap .u32 (Int.tmod s96.1 100000000)) 10000)) 100))) * 2)) : Int).toNat 0).toNat : Nat) : Int)))) ((0 : Nat) + (IntKind.wrap .i64 (s96.2.1 - 5)) : Int) ((((k0_.getD ((IntKind.wrap .u32 (((IntKind.wrap .u32 (((Int.tmod ((IntKind.wrap .u32 (Int.tdiv (IntKind.wrap .u32 (Int.tmod s96.1 100000000)) 10000))) 100)) * 2))) + 1)) : Int).toNat 0).toNat : Nat) : Int)))) ((0 : Nat) + (IntKind.wrap .i64 (s96.2.1 - 6)) : Int) ((((k0_.getD ((IntKind.wrap .u32 (((Int.tmod ((IntKind.wrap .u32 (Int.tdiv (IntKind.wrap .u32 (Int.tmod s96.1 100000000)) 10000))) 100)) * 2)) : Int).toNat 0).toNat : Nat) : Int)))) ((0 : Nat) + (IntKind.wrap .i64 (s96.2.1 - 7)) : Int) ((((k0_.getD ((IntKind.wrap .u32 (((IntKind.wrap .u32 (((IntKind.wrap .u32 (Int.tdiv ((IntKind.wrap .u32 (Int.tdiv (IntKind.wrap .u32 (Int.tmod s96.1 100000000)) 10000))) 100))) * 2))) + 1)) : Int).toNat 0).toNat : Nat) : Int)))).length then (some (.inl ((IntKind.wrap .u64 (Int.tdiv s96.1 100000000)), (IntKind.wrap .i64 (s96.2.1 - 8)), (setAt ((setAt ((setAt ((setAt ((setAt ((setAt ((setAt ((setAt s96.2.2 ((0 : Nat) + (IntKind.wrap .i64 (s96.2.1 - 1)) : Int) ((((k0_.getD ((IntKind.wrap .u32 (((IntKind.wrap .u32 (((Int.tmod ((Int.tmod (IntKind.wrap .u32 (Int.tmod s96.1 100000000)) 10000)) 100)) * 2))) + 1)) : Int).toNat 0).toNat : Nat) : Int)))) ((0 : Nat) + (IntKind.wrap .i64 (s96.2.1 - 2)) : Int) ((((k0_.getD ((IntKind.wrap .u32 (((Int.tmod ((Int.tmod (IntKind.wrap .u32 (Int.tmod s96.1 100000000)) 10000)) 100)) * 2)) : Int).toNat 0).toNat : Nat) : Int)))) ((0 : Nat) + (IntKind.wrap .i64 (s96.2.1 - 3)) : Int) ((((k0_.getD ((IntKind.wrap .u32 (((IntKind.wrap .u32 (((IntKind.wrap .u32 (Int.tdiv ((Int.tmod (IntKind.wrap .u32 (Int.tmod s96.1 100000000)) 10000)) 100))) * 2))) + 1)) : Int).toNat 0).toNat : Nat) : Int)))) ((0 : Nat) + (IntKind.wrap .i64 (s96.2.1 - 4)) : Int) ((((k0_.getD ((IntKind.wrap .u32 (((IntKind.wrap .u32 (Int.tdiv ((Int.tmod (IntKind.wrap .u32 (Int.tmod s96.1 100000000)) 10000)) 100))) * 2)) : Int).toNat 0).toNat : Nat) : Int)))) ((0 : Nat) + (IntKind.wrap .i64 (s96.2.1 - 5)) : Int) ((((k0_.getD ((IntKind.wrap .u32 (((IntKind.wrap .u32 (((Int.tmod ((IntKind.wrap .u32 (Int.tdiv (IntKind.wrap .u32 (Int.tmod s96.1 100000000)) 10000))) 100)) * 2))) + 1)) : Int).toNat 0).toNat : Nat) : Int)))) ((0 : Nat) + (IntKind.wrap .i64 (s96.2.1 - 6)) : Int) ((((k0_.getD ((IntKind.wrap .u32 (((Int.tmod ((IntKind.wrap .u32 (Int.tdiv (IntKind.wrap .u32 (Int.tmod s96.1 100000000)) 10000))) 100)) * 2)) : Int).toNat 0).toNat : Nat) : Int)))) ((0 : Nat) + (IntKind.wrap .i64 (s96.2.1 - 7)) : Int) ((((k0_.getD ((IntKind.wrap .u32 (((IntKind.wrap .u32 (((IntKind.wrap .u32 (Int.tdiv ((IntKind.wrap .u32 (Int.tdiv (IntKind.wrap .u32 (Int.tmod s96.1 100000000)) 10000))) 100))) * 2))) + 1)) : Int).toNat 0).toNat : Nat) : Int)))) ((0 : Nat) + (IntKind.wrap .i64 (s96.2.1 - 8)) : Int) ((((k0_.getD ((IntKind.wrap .u32 (((IntKind.wrap .u32 (Int.tdiv ((IntKind.wrap .u32 (Int.tdiv (IntKind.wrap .u32 (Int.tmod s96.1 100000000)) 10000))) 100))) * 2)) : Int).toNat 0).toNat : Nat) : Int)))))) else none) else none) else none) else none) else none) else none) else none) else none) else none) else none) else none) else none) else none) else none) else none) else none) else none) else none) else none) else none) else none) else none) else none) else none) else (some (.inr (s96.1, s96.2.1, s96.2.2))))) big (x1, ((x0.toNat : Nat) : Int), x2)) fun (s91 : Int × Int × (List Int)) => (Option.bind (bif (decide (s91.2.1 ≥ 4)) then (bif inR ((IntKind.wrap .u32 (((IntKind.wrap .u32 (((Int.tmod (Int.tmod (IntKind.wrap .u32 s91.1) 10000) 100)) * 2))) + 1))) k0_.length then (bif inR ((IntKind.wrap .u32 (((Int.tmod (Int.tmod (IntKind.wrap .u32 s91.1) 10000) 100)) * 2))) k0_.length then (bif inR (IntKind.wrap .i64 (s91.2.1 - 1)) x0.toNat then (bif inP 0 (IntKind.wrap .i64 (s91.2.1 - 1)) s91.2.2.length then (bif inR (IntKind.wrap .i64 (s91.2.1 - 2)) x0.toNat then (bif inP 0 (IntKind.wrap .i64 (s91.2.1 - 2)) ((setAt s91.2.2 ((0 : Nat) + (IntKind.wrap .i64 (s91.2.1 - 1)) : Int) ((((k0_.getD ((IntKind.wrap .u32 (((IntKind.wrap .u32 (((Int.tmod (Int.tmod (IntKind.wrap .u32 s91.1) 10000) 100)) * 2))) + 1)) : Int).toNat 0).toNat : Nat) : Int)))).length then (bif inR ((IntKind.wrap .u32 (((IntKind.wrap .u32 (((IntKind.wrap .u32 (Int.tdiv (Int.tmod (IntKind.wrap .u32 s91.1) 10000) 100))) * 2))) + 1))) k0_.length then (bif inR ((IntKind.wrap .u32 (((IntKind.wrap .u32 (Int.tdiv (Int.tmod (IntKind.wrap .u32 s91.1) 10000) 100))) * 2))) k0_.length then (bif inR (IntKind.wrap .i64 (s91.2.1 - 3)) x0.toNat then (bif inP 0 (IntKind.wrap .i64 (s91.2.1 - 3)) ((setAt ((setAt s91.2.2 ((0 : Nat) + (IntKind.wrap .i64 (s91.2.1 - 1)) : Int) ((((k0_.getD ((IntKind.wrap .u32 (((IntKind.wrap .u32 (((Int.tmod (Int.tmod (IntKind.wrap .u32 s91.1) 10000) 100)) * 2))) + 1)) : Int).toNat 0).toNat : Nat) : Int)))) ((0 : Nat) + (IntKind.wrap .i64 (s91.2.1 - 2)) : Int) ((((k0_.getD ((IntKind.wrap .u32 (((Int.tmod (Int.tmod (IntKind.wrap .u32 s91.1) 10000) 100)) * 2)) : Int).toNat 0).toNat : Nat) : Int)))).length then (bif inR (IntKind.wrap .i64 (s91.2.1 - 4)) x0.toNat then (bif inP 0 (IntKind.wrap .i64 (s91.2.1 - 4)) ((setAt ((setAt ((setAt s91.2.2 ((0 : Nat) + (IntKind.wrap .i64 (s91.2.1 - 1)) : Int) ((((k0_.getD ((IntKind.wrap .u32 (((IntKind.wrap .u32 (((Int.tmod (Int.tmod (IntKind.wrap .u32 s91.1) 10000) 100)) * 2))) + 1)) : Int).toNat 0).toNat : Nat) : Int)))) ((0 : Nat) + (IntKind.wrap .i64 (s91.2.1 - 2)) : Int) ((((k0_.getD ((IntKind.wrap .u32 (((Int.tmod (Int.tmod (IntKind.wrap .u32 s91.1) 10000) 100)) * 2)) : Int).toNat 0).toNat : Nat) : Int)))) ((0 : Nat) + (IntKind.wrap .i64 (s91.2.1 - 3)) : Int) ((((k0_.getD ((IntKind.wrap .u32 (((IntKind.wrap .u32 (((IntKind.wrap .u32 (Int.tdiv (Int.tmod (IntKind.wrap .u32 s91.1) 10000) 100))) * 2))) + 1)) : Int).toNat 0).toNat : Nat) : Int)))).length then (some ((IntKind.wrap .i64 (s91.2.1 - 4)), (IntKind.wrap .u32 (Int.tdiv (IntKind.wrap .u32 s91.1) 10000)), (setAt ((setAt ((setAt ((setAt s91.2.2 ((0 : Nat) + (IntKind.wrap .i64 (s91.2.1 - 1)) : Int) ((((k0_.getD ((IntKind.wrap .u32 (((IntKind.wrap .u32 (((Int.tmod (Int.tmod (IntKind.wrap .u32 s91.1) 10000) 100)) * 2))) + 1)) : Int).toNat 0).toNat : Nat) : Int)))) ((0 : Nat) + (IntKind.wrap .i64 (s91.2.1 - 2)) : Int) ((((k0_.getD ((IntKind.wrap .u32 (((Int.tmod (Int.tmod (IntKind.wrap .u32 s91.1) 10000) 100)) * 2)) : Int).toNat 0).toNat : Nat) : Int)))) ((0 : Nat) + (IntKind.wrap .i64 (s91.2.1 - 3)) : Int) ((((k0_.getD ((IntKind.wrap .u32 (((IntKind.wrap .u32 (((IntKind.wrap .u32 (Int.tdiv (Int.tmod (IntKind.wrap .u32 s91.1) 10000) 100))) * 2))) + 1)) : Int).toNat 0).toNat : Nat) : Int)))) ((0 : Nat) + (IntKind.wrap .i64 (s91.2.1 - 4)) : Int) ((((k0_.getD ((IntKind.wrap .u32 (((IntKind.wrap .u32 (Int.tdiv (Int.tmod (IntKind.wrap .u32 s91.1) 10000) 100))) * 2)) : Int).toNat 0).toNat : Nat) : Int))))) else none) else none) else none) else none) else none) else none) else none) else none) else none) else none) else none) else none) else (some (s91.2.1, (IntKind.wrap .u32 s91.1), s91.2.2))) fun (s201 : Int × Int × (List Int)) => (Option.bind (bif (decide (s201.1 ≥ 2)) then (bif inR ((IntKind.wrap .u32 (((IntKind.wrap .u32 ((Int.tmod s201.2.1 100) * 2))) + 1))) k0_.length then (bif inR ((IntKind.wrap .u32 ((Int.tmod s201.2.1 100) * 2))) k0_.length then (bif inR (IntKind.wrap .i64 (s201.1 - 1)) x0.toNat then (bif inP 0 (IntKind.wrap .i64 (s201.1 - 1)) s201.2.2.length then (bif inR (IntKind.wrap .i64 (s201.1 - 2)) x0.toNat then (bif inP 0 (IntKind.wrap .i64 (s201.1 - 2)) ((setAt s201.2.2 ((0 : Nat) + (IntKind.wrap .i64 (s201.1 - 1)) : Int) ((((k0_.getD ((IntKind.wrap .u32 (((IntKind.wrap .u32 ((Int.tmod s201.2.1 100) * 2))) + 1)) : Int).toNat 0).toNat : Nat) : Int)))).length then (some ((IntKind.wrap .i64 (s201.1 - 2)), (IntKind.wrap .u32 (Int.tdiv s201.2.1 100)), (setAt ((setAt s201.2.2 ((0 : Nat) + (IntKind.wrap .i64 (s201.1 - 1)) : Int) ((((k0_.getD ((IntKind.wrap .u32 (((IntKind.wrap .u32 ((Int.tmod s201.2.1 100) * 2))) + 1)) : Int).toNat 0).toNat : Nat) : Int)))) ((0 : Nat) + (IntKind.wrap .i64 (s201.1 - 2)) : Int) ((((k0_.getD ((IntKind.wrap .u32 ((Int.tmod s201.2.1 100) * 2)) : Int).toNat 0).toNat : Nat) : Int))))) else none) else none) else none) else none) else none) else none) else (some (s201.1, s201.2.1, s201.2.2))) fun (s230 : Int × Int × (List Int)) => (bif (decide (s230.1 > 0)) then (bif inR 0 x0.toNat then (bif inP 0 0 s230.2.2.length then (some ((setAt s230.2.2 ((0 : Nat) + 0 : Int) ((IntKind.wrap .u8 (IntKind.wrap .u32 (48 + s230.2.1))))))) else none) else none) else (some s230.2.2)))))
theorem strconv_formatBase10_s0_ok {x0 : Int} {x1 : Int} {x2 : List Int} {r : (List Int)} (h : strconv_formatBase10_s0 x0 x1 x2 = some r) : SC Tryd.prog 95 [.sl 0 0 x0.toNat 1, .int .u64 x1] [.box (x2.flatMap (encI .u8))] (.tup []) [.box (r.flatMap (encI .u8))] := by
 refine kFn (fn := Tryd.f95) (fun F hFn hFH hFD => ?_)
 unfold strconv_formatBase10_s0 at h
 refine kSR ?_
 refine kC 3 [0,1,4] ?_
 refine kEN ?_
 obtain ⟨s91, hy93, h95⟩ := bindS h
 refine K.cutN (by kernel_rfl) (fun (s91 : Int × Int × (List Int)) => ([(0, .sl 0 0 x0.toNat 1), (1, .int .u64 s91.1), (4, .int .i64 s91.2.1)], [.box (s91.2.2.flatMap (encI .u8))])) s91 ?_ ?_
 ·refine kb 0 ?_
  refine kl (fun (s96 : Int × Int × (List Int)) => ([(0, .sl 0 0 x0.toNat 1), (1, .int .u64 s96.1), (4, .int .i64 s96.2.1)], [.box (s96.2.2.flatMap (encI .u8))])) hy93 [0, 1, 4] (fun s96 x156 hs155 => ?_)
  refine kS ?_
  refine kSR ?_
  refine kC 2 [0,1,4,20] ?_
  refine kEN ?_
  refine kBJ 20 hs155 (fun h158 => ?_) (fun h159 => ?_)
  ·refine kT ?_
   refine kK ?_
   refine PJ.next ?_
   refine kb 1 ?_
   refine kSR ?_
   refine kC 4 [0,1,4,5] ?_
   refine kEN ?_
   refine kSR ?_
   refine kC 3 [0,1,4,5] ?_
   refine kEN ?_
   refine kSR ?_
   refine kC 6 [0,1,4,6,7] ?_
   refine kEN ?_
   refine kSR ?_
   refine kC 8 [0,1,4,6,8,9] ?_
   refine kEN ?_
   refine kSR ?_
   refine kC 8 [0,1,4,8,9,10,11] ?_
   refine kEN ?_
   refine kS ?_
   refine J.keep [0, 1, 4, 8, 9, 10, 11] (L2 := [(0, .sl 0 0 x0.toNat 1), (1, .int .u64 (IntKind.wrap .u64 (Int.tdiv s96.1 100000000))), (4, .int .i64 s96.2.1), (8, .int .u32 ((IntKind.wrap .u32 (((IntKind.wrap .u32 (Int.tdiv ((Int.tmod (IntKind.wrap .u32 (Int.tmod s96.1 100000000)) 10000)) 100))) * 2)))), (9, .int .u32 ((IntKind.wrap .u32 (((Int.tmod ((Int.tmod (IntKind.wrap .u32 (Int.tmod s96.1 100000000)) 10000)) 100)) * 2)))), (10, .int .u32 ((IntKind.wrap .u32 (((IntKind.wrap .u32 (Int.tdiv ((IntKind.wrap .u32 (Int.tdiv (IntKind.wrap .u32 (Int.tmod s96.1 100000000)) 10000))) 100))) * 2)))), (11, .int .u32 ((IntKind.wrap .u32 (((Int.tmod ((IntKind.wrap .u32 (Int.tdiv (IntKind.wrap .u32 (Int.tmod s96.1 100000000)) 10000))) 100)) * 2))))]) (by kernel_rfl) ?_
   refine K.draw (by kernel_rfl) (by kernel_rfl) (by kernel_rfl) (H2 := [.box (s96.2.2.flatMap (encI .u8))]) (by kernel_rfl) (n := 1) (by kernel_rfl) ?_
   refine kD 8 ?_
   obtain ⟨hm, h160⟩ := asrt h158
   refine kQ 50 (.int .u8 (((k0_.getD ((IntKind.wrap .u32 (((IntKind.wrap .u32 (((Int.tmod ((Int.tmod (IntKind.wrap .u32 (Int.tmod s96.1 100000000)) 10000)) 100)) * 2))) + 1)) : Int).toNat 0).toNat : Nat) : Int)) [] (tr2 := [([], []), ([], []), ([], []), ([], []), ([], []), ([], []), ([], []), ([], []), ([], [])]) hm ?_
   refine kD 1 ?_
   obtain ⟨hm, h161⟩ := asrt h160
   refine kQ 52 (.int .u8 (((k0_.getD ((IntKind.wrap .u32 (((Int.tmod ((Int.tmod (IntKind.wrap .u32 (Int.tmod s96.1 100000000)) 10000)) 100)) * 2)) : Int).toNat 0).toNat : Nat) : Int)) [] (tr2 := [([], []), ([], []), ([], []), ([], []), ([], []), ([], []), ([], []), ([], []), ([], []), ([], []), ([], [])]) hm ?_
   obtain ⟨hm, h162⟩ := asrt h161
   refine kQ 53 (.ptr 0 (0 + ((IntKind.wrap .i64 (s96.2.1 - 1)) : Int).toNat * 1)) [] (tr2 := [([], []), ([], []), ([], []), ([], []), ([], []), ([], []), ([], []), ([], []), ([], []), ([], []), ([], []), ([], [])]) hm ?_
   obtain ⟨hm, h163⟩ := asrt h162
   refine RJ.relS (d := none) (ef' := ⟨.undef, [0], [(0, .box ((setAt s96.2.2 ((0 : Nat) + (IntKind.wrap .i64 (s96.2.1 - 1)) : Int) ((((k0_.getD ((IntKind.wrap .u32 (((IntKind.wrap .u32 (((Int.tmod ((Int.tmod (IntKind.wrap .u32 (Int.tmod s96.1 100000000)) 10000)) 100)) * 2))) + 1)) : Int).toNat 0).toNat : Nat) : Int))).flatMap (encI .u8)))]⟩) (c := Nat.ble (0 * 1 + ((IntKind.wrap .i64 (s96.2.1 - 1)) : Int).toNat * 1 + ((encI .u8) ((((k0_.getD ((IntKind.wrap .u32 (((IntKind.wrap .u32 (((Int.tmod ((Int.tmod (IntKind.wrap .u32 (Int.tmod s96.1 100000000)) 10000)) 100)) * 2))) + 1)) : Int).toNat 0).toNat : Nat) : Int))).length) (s96.2.2.flatMap (encI .u8)).length) (tr2 := [([], []), ([], []), ([], []), ([], []), ([], []), ([], []), ([], []), ([], []), ([], []), ([], []), ([], []), ([], []), ([0, 1], [0])]) (H2 := [.box (((setAt s96.2.2 ((0 : Nat) + (IntKind.wrap .i64 (s96.2.1 - 1)) : Int) ((((k0_.getD ((IntKind.wrap .u32 (((IntKind.wrap .u32 (((Int.tmod ((Int.tmod (IntKind.wrap .u32 (Int.tmod s96.1 100000000)) 10000)) 100)) * 2))) + 1)) : Int).toNat 0).toNat : Nat) : Int)))).flatMap (encI .u8))]) (by kernel_rfl) (storeB_ok (encI_len .u8) hm) (fun hc => N.storeB (o := 0) (encI_len .u8) hm) (by kernel_rfl) ?_
   obtain ⟨hm, h164⟩ := asrt h163
   refine kQ 54 (.ptr 0 (0 + ((IntKind.wrap .i64 (s96.2.1 - 2)) : Int).toNat * 1)) [] (tr2 := [([], []), ([], []), ([], []), ([], []), ([], []), ([], []), ([], []), ([], []), ([], []), ([], []), ([], []), ([], []), ([0, 1], [0]), ([], [])]) hm ?_
   obtain ⟨hm, h165⟩ := asrt h164
   refine RJ.relS (d := none) (ef' := ⟨.undef, [0], [(0, .box ((setAt ((setAt s96.2.2 ((0 : Nat) + (IntKind.wrap .i64 (s96.2.1 - 1)) : Int) ((((k0_.getD ((IntKind.wrap .u32 (((IntKind.wrap .u32 (((Int.tmod ((Int.tmod (IntKind.wrap .u32 (Int.tmod s96.1 100000000)) 10000)) 100)) * 2))) + 1)) : Int).toNat 0).toNat : Nat) : Int)))) ((0 : Nat) + (IntKind.wrap .i64 (s96.2.1 - 2)) : Int) ((((k0_.getD ((IntKind.wrap .u32 (((Int.tmod ((Int.tmod (IntKind.wrap .u32 (Int.tmod s96.1 100000000)) 10000)) 100)) * 2)) : Int).toNat 0).toNat : Nat) : Int))).flatMap (encI .u8)))]⟩) (c := Nat.ble (0 * 1 + ((IntKind.wrap .i64 (s96.2.1 - 2)) : Int).toNat * 1 + ((encI .u8) ((((k0_.getD ((IntKind.wrap .u32 (((Int.tmod ((Int.tmod (IntKind.wrap .u32 (Int.tmod s96.1 100000000)) 10000)) 100)) * 2)) : Int).toNat 0).toNat : Nat) : Int))).length) (((setAt s96.2.2 ((0 : Nat) + (IntKind.wrap .i64 (s96.2.1 - 1)) : Int) ((((k0_.getD ((IntKind.wrap .u32 (((IntKind.wrap .u32 (((Int.tmod ((Int.tmod (IntKind.wrap .u32 (Int.tmod s96.1 100000000)) 10000)) 100)) * 2))) + 1)) : Int).toNat 0).toNat : Nat) : Int)))).flatMap (encI .u8)).length) (tr2 := [([], []), ([], []), ([], []), ([], []), ([], []), ([], []), ([], []), ([], []), ([], []), ([], []), ([], []), ([], []), ([0, 1], [0]), ([], []), ([0, 1], [0])]) (H2 := [.box (((setAt ((setAt s96.2.2 ((0 : Nat) + (IntKind.wrap .i64 (s96.2.1 - 1)) : Int) ((((k0_.getD ((IntKind.wrap .u32 (((IntKind.wrap .u32 (((Int.tmod ((Int.tmod (IntKind.wrap .u32 (Int.tmod s96.1 100000000)) 10000)) 100)) * 2))) + 1)) : Int).toNat 0).toNat : Nat) : Int)))) ((0 : Nat) + (IntKind.wrap .i64 (s96.2.1 - 2)) : Int) ((((k0_.getD ((IntKind.wrap .u32 (((Int.tmod ((Int.tmod (IntKind.wrap .u32 (Int.tmod s96.1 100000000)) 10000)) 100)) * 2)) : Int).toNat 0).toNat : Nat) : Int)))).flatMap (encI .u8))]) (by kernel_rfl) (storeB_ok (encI_len .u8) hm) (fun hc => N.storeB (o := 0) (encI_len .u8) hm) (by kernel_rfl) ?_
   refine kEN ?_
   refine kS ?_
   refine J.keep [0, 1, 4, 8, 10, 11] (L2 := [(0, .sl 0 0 x0.toNat 1), (1, .int .u64 (IntKind.wrap .u64 (Int.tdiv s96.1 100000000))), (4, .int .i64 s96.2.1), (8, .int .u32 ((IntKind.wrap .u32 (((IntKind.wrap .u32 (Int.tdiv ((Int.tmod (IntKind.wrap .u32 (Int.tmod s96.1 100000000)) 10000)) 100))) * 2)))), (10, .int .u32 ((IntKind.wrap .u32 (((IntKind.wrap .u32 (Int.tdiv ((IntKind.wrap .u32 (Int.tdiv (IntKind.wrap .u32 (Int.tmod s96.1 100000000)) 10000))) 100))) * 2)))), (11, .int .u32 ((IntKind.wrap .u32 (((Int.tmod ((IntKind.wrap .u32 (Int.tdiv (IntKind.wrap .u32 (Int.tmod s96.1 100000000)) 10000))) 100)) * 2))))]) (by kernel_rfl) ?_
   refine K.draw (by kernel_rfl) (by kernel_rfl) (by kernel_rfl) (H2 := [.box (((setAt ((setAt s96.2.2 ((0 : Nat) + (IntKind.wrap .i64 (s96.2.1 - 1)) : Int) ((((k0_.getD ((IntKind.wrap .u32 (((IntKind.wrap .u32 (((Int.tmod ((Int.tmod (IntKind.wrap .u32 (Int.tmod s96.1 100000000)) 10000)) 100)) * 2))) + 1)) : Int).toNat 0).toNat : Nat) : Int)))) ((0 : Nat) + (IntKind.wrap .i64 (s96.2.1 - 2)) : Int) ((((k0_.getD ((IntKind.wrap .u32 (((Int.tmod ((Int.tmod (IntKind.wrap .u32 (Int.tmod s96.1 100000000)) 10000)) 100)) * 2)) : Int).toNat 0).toNat : Nat) : Int)))).flatMap (encI .u8))]) (by kernel_rfl) (n := 1) (by kernel_rfl) ?_
   refine RJ.segD 8 (tr2 := [([], []), ([], []), ([], []), ([], []), ([], []), ([], []), ([], []), ([], [])]) (L2 := [(62, .int .u32 ((IntKind.wrap .u32 (((IntKind.wrap .u32 (((IntKind.wrap .u32 (Int.tdiv ((Int.tmod (IntKind.wrap .u32 (Int.tmod s96.1 100000000)) 10000)) 100))) * 2))) + 1)))), (61, .int .u32 ((IntKind.wrap .u32 (((IntKind.wrap .u32 (Int.tdiv ((Int.tmod (IntKind.wrap .u32 (Int.tmod s96.1 100000000)) 10000)) 100))) * 2)))), (60, .int .i64 (IntKind.wrap .i64 (s96.2.1 - 4))), (59, .int .i64 s96.2.1), (58, .sl 0 0 x0.toNat 1), (57, .int .i64 (IntKind.wrap .i64 (s96.2.1 - 3))), (56, .int .i64 s96.2.1), (55, .sl 0 0 x0.toNat 1), (0, .sl 0 0 x0.toNat 1), (1, .int .u64 (IntKind.wrap .u64 (Int.tdiv s96.1 100000000))), (4, .int .i64 s96.2.1), (8, .int .u32 ((IntKind.wrap .u32 (((IntKind.wrap .u32 (Int.tdiv ((Int.tmod (IntKind.wrap .u32 (Int.tmod s96.1 100000000)) 10000)) 100))) * 2)))), (10, .int .u32 ((IntKind.wrap .u32 (((IntKind.wrap .u32 (Int.tdiv ((IntKind.wrap .u32 (Int.tdiv (IntKind.wrap .u32 (Int.tmod s96.1 100000000)) 10000))) 100))) * 2)))), (11, .int .u32 ((IntKind.wrap .u32 (((Int.tmod ((IntKind.wrap .u32 (Int.tdiv (IntKind.wrap .u32 (Int.tmod s96.1 100000000)) 10000))) 100)) * 2))))]) (H2 := [.box (((setAt ((setAt s96.2.2 ((0 : Nat) + (IntKind.wrap .i64 (s96.2.1 - 1)) : Int) ((((k0_.getD ((IntKind.wrap .u32 (((IntKind.wrap .u32 (((Int.tmod ((Int.tmod (IntKind.wrap .u32 (Int.tmod s96.1 100000000)) 10000)) 100)) * 2))) + 1)) : Int).toNat 0).toNat : Nat) : Int)))) ((0 : Nat) + (IntKind.wrap .i64 (s96.2.1 - 2)) : Int) ((((k0_.getD ((IntKind.wrap .u32 (((Int.tmod ((Int.tmod (IntKind.wrap .u32 (Int.tmod s96.1 100000000)) 10000)) 100)) * 2)) : Int).toNat 0).toNat : Nat) : Int)))).flatMap (encI .u8))]) (by kernel_rfl) ?_
   obtain ⟨hm, h166⟩ := asrt h165
   refine kQ 63 (.int .u8 (((k0_.getD ((IntKind.wrap .u32 (((IntKind.wrap .u32 (((IntKind.wrap .u32 (Int.tdiv ((Int.tmod (IntKind.wrap .u32 (Int.tmod s96.1 100000000)) 10000)) 100))) * 2))) + 1)) : Int).toNat 0).toNat : Nat) : Int)) [] (tr2 := [([], []), ([], []), ([], []), ([], []), ([], []), ([], []), ([], []), ([], []), ([], [])]) hm ?_
   refine kD 1 ?_
   obtain ⟨hm, h167⟩ := asrt h166
   refine kQ 65 (.int .u8 (((k0_.getD ((IntKind.wrap .u32 (((IntKind.wrap .u32 (Int.tdiv ((Int.tmod (IntKind.wrap .u32 (Int.tmod s96.1 100000000)) 10000)) 100))) * 2)) : Int).toNat 0).toNat : Nat) : Int)) [] (tr2 := [([], []), ([], []), ([], []), ([], []), ([], []), ([], []), ([], []), ([], []), ([], []), ([], []), ([], [])]) hm ?_
   obtain ⟨hm, h168⟩ := asrt h167
   refine kQ 66 (.ptr 0 (0 + ((IntKind.wrap .i64 (s96.2.1 - 3)) : Int).toNat * 1)) [] (tr2 := [([], []), ([], []), ([], []), ([], []), ([], []), ([], []), ([], []), ([], []), ([], []), ([], []), ([], []), ([], [])]) hm ?_
   obtain ⟨hm, h169⟩ := asrt h168
   refine RJ.relS (d := none) (ef' := ⟨.undef, [0], [(0, .box ((setAt ((setAt ((setAt s96.2.2 ((0 : Nat) + (IntKind.wrap .i64 (s96.2.1 - 1)) : Int) ((((k0_.getD ((IntKind.wrap .u32 (((IntKind.wrap .u32 (((Int.tmod ((Int.tmod (IntKind.wrap .u32 (Int.tmod s96.1 100000000)) 10000)) 100)) * 2))) + 1)) : Int).toNat 0).toNat : Nat) : Int)))) ((0 : Nat) + (IntKind.wrap .i64 (s96.2.1 - 2)) : Int) ((((k0_.getD ((IntKind.wrap .u32 (((Int.tmod ((Int.tmod (IntKind.wrap .u32 (Int.tmod s96.1 100000000)) 10000)) 100)) * 2)) : Int).toNat 0).toNat : Nat) : Int)))) ((0 : Nat) + (IntKind.wrap .i64 (s96.2.1 - 3)) : Int) ((((k0_.getD ((IntKind.wrap .u32 (((IntKind.wrap .u32 (((IntKind.wrap .u32 (Int.tdiv ((Int.tmod (IntKind.wrap .u32 (Int.tmod s96.1 100000000)) 10000)) 100))) * 2))) + 1)) : Int).toNat 0).toNat : Nat) : Int))).flatMap (encI .u8)))]⟩) (c := Nat.ble (0 * 1 + ((IntKind.wrap .i64 (s96.2.1 - 3)) : Int).toNat * 1 + ((encI .u8) ((((k0_.getD ((IntKind.wrap .u32 (((IntKind.wrap .u32 (((IntKind.wrap .u32 (Int.tdiv ((Int.tmod (IntKind.wrap .u32 (Int.tmod s96.1 100000000)) 10000)) 100))) * 2))) + 1)) : Int).toNat 0).toNat : Nat) : Int))).length) (((setAt ((setAt s96.2.2 ((0 : Nat) + (IntKind.wrap .i64 (s96.2.1 - 1)) : Int) ((((k0_.getD ((IntKind.wrap .u32 (((IntKind.wrap .u32 (((Int.tmod ((Int.tmod (IntKind.wrap .u32 (Int.tmod s96.1 100000000)) 10000)) 100)) * 2))) + 1)) : Int).toNat 0).toNat : Nat) : Int)))) ((0 : Nat) + (IntKind.wrap .i64 (s96.2.1 - 2)) : Int) ((((k0_.getD ((IntKind.wrap .u32 (((Int.tmod ((Int.tmod (IntKind.wrap .u32 (Int.tmod s96.1 100000000)) 10000)) 100)) * 2)) : Int).toNat 0).toNat : Nat) : Int)))).flatMap (encI .u8)).length) (tr2 := [([], []), ([], []), ([], []), ([], []), ([], []), ([], []), ([], []), ([], []), ([], []), ([], []), ([], []), ([], []), ([0, 1], [0])]) (H2 := [.box (((setAt ((setAt ((setAt s96.2.2 ((0 : Nat) + (IntKind.wrap .i64 (s96.2.1 - 1)) : Int) ((((k0_.getD ((IntKind.wrap .u32 (((IntKind.wrap .u32 (((Int.tmod ((Int.tmod (IntKind.wrap .u32 (Int.tmod s96.1 100000000)) 10000)) 100)) * 2))) + 1)) : Int).toNat 0).toNat : Nat) : Int)))) ((0 : Nat) + (IntKind.wrap .i64 (s96.2.1 - 2)) : Int) ((((k0_.getD ((IntKind.wrap .u32 (((Int.tmod ((Int.tmod (IntKind.wrap .u32 (Int.tmod s96.1 100000000)) 10000)) 100)) * 2)) : Int).toNat 0).toNat : Nat) : Int)))) ((0 : Nat) + (IntKind.wrap .i64 (s96.2.1 - 3)) : Int) ((((k0_.getD ((IntKind.wrap .u32 (((IntKind.wrap .u32 (((IntKind.wrap .u32 (Int.tdiv ((Int.tmod (IntKind.wrap .u32 (Int.tmod s96.1 100000000)) 10000)) 100))) * 2))) + 1)) : Int).toNat 0).toNat : Nat) : Int)))).flatMap (encI .u8))]) (by kernel_rfl) (storeB_ok (encI_len .u8) hm) (fun hc => N.storeB (o := 0) (encI_len .u8) hm) (by kernel_rfl) ?_
   obtain ⟨hm, h170⟩ := asrt h169
   refine kQ 67 (.ptr 0 (0 + ((IntKind.wrap .i64 (s96.2.1 - 4)) : Int).toNat * 1)) [] (tr2 := [([], []), ([], []), ([], []), ([], []), ([], []), ([], []), ([], []), ([], []), ([], []), ([], []), ([], []), ([], []), ([0, 1], [0]), ([], [])]) hm ?_
   obtain ⟨hm, h171⟩ := asrt h170
   refine RJ.relS (d := none) (ef' := ⟨.undef, [0], [(0, .box ((setAt ((setAt ((setAt ((setAt s96.2.2 ((0 : Nat) + (IntKind.wrap .i64 (s96.2.1 - 1)) : Int) ((((k0_.getD ((IntKind.wrap .u32 (((IntKind.wrap .u32 (((Int.tmod ((Int.tmod (IntKind.wrap .u32 (Int.tmod s96.1 100000000)) 10000)) 100)) * 2))) + 1)) : Int).toNat 0).toNat : Nat) : Int)))) ((0 : Nat) + (IntKind.wrap .i64 (s96.2.1 - 2)) : Int) ((((k0_.getD ((IntKind.wrap .u32 (((Int.tmod ((Int.tmod (IntKind.wrap .u32 (Int.tmod s96.1 100000000)) 10000)) 100)) * 2)) : Int).toNat 0).toNat : Nat) : Int)))) ((0 : Nat) + (IntKind.wrap .i64 (s96.2.1 - 3)) : Int) ((((k0_.getD ((IntKind.wrap .u32 (((IntKind.wrap .u32 (((IntKind.wrap .u32 (Int.tdiv ((Int.tmod (IntKind.wrap .u32 (Int.tmod s96.1 100000000)) 10000)) 100))) * 2))) + 1)) : Int).toNat 0).toNat : Nat) : Int)))) ((0 : Nat) + (IntKind.wrap .i64 (s96.2.1 - 4)) : Int) ((((k0_.getD ((IntKind.wrap .u32 (((IntKind.wrap .u32 (Int.tdiv ((Int.tmod (IntKind.wrap .u32 (Int.tmod s96.1 100000000)) 10000)) 100))) * 2)) : Int).toNat 0).toNat : Nat) : Int))).flatMap (encI .u8)))]⟩) (c := Nat.ble (0 * 1 + ((IntKind.wrap .i64 (s96.2.1 - 4)) : Int).toNat * 1 + ((encI .u8) ((((k0_.getD ((IntKind.wrap .u32 (((IntKind.wrap .u32 (Int.tdiv ((Int.tmod (IntKind.wrap .u32 (Int.tmod s96.1 100000000)) 10000)) 100))) * 2)) : Int).toNat 0).toNat : Nat) : Int))).length) (((setAt ((setAt ((setAt s96.2.2 ((0 : Nat) + (IntKind.wrap .i64 (s96.2.1 - 1)) : Int) ((((k0_.getD ((IntKind.wrap .u32 (((IntKind.wrap .u32 (((Int.tmod ((Int.tmod (IntKind.wrap .u32 (Int.tmod s96.1 100000000)) 10000)) 100)) * 2))) + 1)) : Int).toNat 0).toNat : Nat) : Int)))) ((0 : Nat) + (IntKind.wrap .i64 (s96.2.1 - 2)) : Int) ((((k0_.getD ((IntKind.wrap .u32 (((Int.tmod ((Int.tmod (IntKind.wrap .u32 (Int.tmod s96.1 100000000)) 10000)) 100)) * 2)) : Int).toNat 0).toNat : Nat) : Int)))) ((0 : Nat) + (IntKind.wrap .i64 (s96.2.1 - 3)) : Int) ((((k0_.getD ((IntKind.wrap .u32 (((IntKind.wrap .u32 (((IntKind.wrap .u32 (Int.tdiv ((Int.tmod (IntKind.wrap .u32 (Int.tmod s96.1 100000000)) 10000)) 100))) * 2))) + 1)) : Int).toNat 0).toNat : Nat) : Int)))).flatMap (encI .u8)).length) (tr2 := [([], []), ([], []), ([], []), ([], []), ([], []), ([], []), ([], []), ([], []), ([], []), ([], []), ([], []), ([], []), ([0, 1], [0]), ([], []), ([0, 1], [0])]) (H2 := [.box (((setAt ((setAt ((setAt ((setAt s96.2.2 ((0 : Nat) + (IntKind.wrap .i64 (s96.2.1 - 1)) : Int) ((((k0_.getD ((IntKind.wrap .u32 (((IntKind.wrap .u32 (((Int.tmod ((Int.tmod (IntKind.wrap .u32 (Int.tmod s96.1 100000000)) 10000)) 100)) * 2))) + 1)) : Int).toNat 0).toNat : Nat) : Int)))) ((0 : Nat) + (IntKind.wrap .i64 (s96.2.1 - 2)) : Int) ((((k0_.getD ((IntKind.wrap .u32 (((Int.tmod ((Int.tmod (IntKind.wrap .u32 (Int.tmod s96.1 100000000)) 10000)) 100)) * 2)) : Int).toNat 0).toNat : Nat) : Int)))) ((0 : Nat) + (IntKind.wrap .i64 (s96.2.1 - 3)) : Int) ((((k0_.getD ((IntKind.wrap .u32 (((IntKind.wrap .u32 (((IntKind.wrap .u32 (Int.tdiv ((Int.tmod (IntKind.wrap .u32 (Int.tmod s96.1 100000000)) 10000)) 100))) * 2))) + 1)) : Int).toNat 0).toNat : Nat) : Int)))) ((0 : Nat) + (IntKind.wrap .i64 (s96.2.1 - 4)) : Int) ((((k0_.getD ((IntKind.wrap .u32 (((IntKind.wrap .u32 (Int.tdiv ((Int.tmod (IntKind.wrap .u32 (Int.tmod s96.1 100000000)) 10000)) 100))) * 2)) : Int).toNat 0).toNat : Nat) : Int)))).flatMap (encI .u8))]) (by kernel_rfl) (storeB_ok (encI_len .u8) hm) (fun hc => N.storeB (o := 0) (encI_len .u8) hm) (by kernel_rfl) ?_
   refine kEN ?_
   refine kS ?_
   refine J.keep [0, 1, 4, 10, 11] (L2 := [(0, .sl 0 0 x0.toNat 1), (1, .int .u64 (IntKind.wrap .u64 (Int.tdiv s96.1 100000000))), (4, .int .i64 s96.2.1), (10, .int .u32 ((IntKind.wrap .u32 (((IntKind.wrap .u32 (Int.tdiv ((IntKind.wrap .u32 (Int.tdiv (IntKind.wrap .u32 (Int.tmod s96.1 100000000)) 10000))) 100))) * 2)))), (11, .int .u32 ((IntKind.wrap .u32 (((Int.tmod ((IntKind.wrap .u32 (Int.tdiv (IntKind.wrap .u32 (Int.tmod s96.1 100000000)) 10000))) 100)) * 2))))]) (by kernel_rfl) ?_
   refine K.draw (by kernel_rfl) (by kernel_rfl) (by kernel_rfl) (H2 := [.box (((setAt ((setAt ((setAt ((setAt s96.2.2 ((0 : Nat) + (IntKind.wrap .i64 (s96.2.1 - 1)) : Int) ((((k0_.getD ((IntKind.wrap .u32 (((IntKind.wrap .u32 (((Int.tmod ((Int.tmod (IntKind.wrap .u32 (Int.tmod s96.1 100000000)) 10000)) 100)) * 2))) + 1)) : Int).toNat 0).toNat : Nat) : Int)))) ((0 : Nat) + (IntKind.wrap .i64 (s96.2.1 - 2)) : Int) ((((k0_.getD ((IntKind.wrap .u32 (((Int.tmod ((Int.tmod (IntKind.wrap .u32 (Int.tmod s96.1 100000000)) 10000)) 100)) * 2)) : Int).toNat 0).toNat : Nat) : Int)))) ((0 : Nat) + (IntKind.wrap .i64 (s96.2.1 - 3)) : Int) ((((k0_.getD ((IntKind.wrap .u32 (((IntKind.wrap .u32 (((IntKind.wrap .u32 (Int.tdiv ((Int.tmod (IntKind.wrap .u32 (Int.tmod s96.1 100000000)) 10000)) 100))) * 2))) + 1)) : Int).toNat 0).toNat : Nat) : Int)))) ((0 : Nat) + (IntKind.wrap .i64 (s96.2.1 - 4)) : Int) ((((k0_.getD ((IntKind.wrap .u32 (((IntKind.wrap .u32 (Int.tdiv ((Int.tmod (IntKind.wrap .u32 (Int.tmod s96.1 100000000)) 10000)) 100))) * 2)) : Int).toNat 0).toNat : Nat) : Int)))).flatMap (encI .u8))]) (by kernel_rfl) (n := 1) (by kernel_rfl) ?_
   refine kD 8 ?_
   obtain ⟨hm, h172⟩ := asrt h171
   refine kQ 76 (.int .u8 (((k0_.getD ((IntKind.wrap .u32 (((IntKind.wrap .u32 (((Int.tmod ((IntKind.wrap .u32 (Int.tdiv (IntKind.wrap .u32 (Int.tmod s96.1 100000000)) 10000))) 100)) * 2))) + 1)) : Int).toNat 0).toNat : Nat) : Int)) [] (tr2 := [([], []), ([], []), ([], []), ([], []), ([], []), ([], []), ([], []), ([], []), ([], [])]) hm ?_
   refine kD 1 ?_
   obtain ⟨hm, h173⟩ := asrt h172
   refine kQ 78 (.int .u8 (((k0_.getD ((IntKind.wrap .u32 (((Int.tmod ((IntKind.wrap .u32 (Int.tdiv (IntKind.wrap .u32 (Int.tmod s96.1 100000000)) 10000))) 100)) * 2)) : Int).toNat 0).toNat : Nat) : Int)) [] (tr2 := [([], []), ([], []), ([], []), ([], []), ([], []), ([], []), ([], []), ([], []), ([], []), ([], []), ([], [])]) hm ?_
   obtain ⟨hm, h174⟩ := asrt h173
   refine kQ 79 (.ptr 0 (0 + ((IntKind.wrap .i64 (s96.2.1 - 5)) : Int).toNat * 1)) [] (tr2 := [([], []), ([], []), ([], []), ([], []), ([], []), ([], []), ([], []), ([], []), ([], []), ([], []), ([], []), ([], [])]) hm ?_
   obtain ⟨hm, h175⟩ := asrt h174
   refine RJ.relS (d := none) (ef' := ⟨.undef, [0], [(0, .box ((setAt ((setAt ((setAt ((setAt ((setAt s96.2.2 ((0 : Nat) + (IntKind.wrap .i64 (s96.2.1 - 1)) : Int) ((((k0_.getD ((IntKind.wrap .u32 (((IntKind.wrap .u32 (((Int.tmod ((Int.tmod (IntKind.wrap .u32 (Int.tmod s96.1 100000000)) 10000)) 100)) * 2))) + 1)) : Int).toNat 0).toNat : Nat) : Int)))) ((0 : Nat) + (IntKind.wrap .i64 (s96.2.1 - 2)) : Int) ((((k0_.getD ((IntKind.wrap .u32 (((Int.tmod ((Int.tmod (IntKind.wrap .u32 (Int.tmod s96.1 100000000)) 10000)) 100)) * 2)) : Int).toNat 0).toNat : Nat) : Int)))) ((0 : Nat) + (IntKind.wrap .i64 (s96.2.1 - 3)) : Int) ((((k0_.getD ((IntKind.wrap .u32 (((IntKind.wrap .u32 (((IntKind.wrap .u32 (Int.tdiv ((Int.tmod (IntKind.wrap .u32 (Int.tmod s96.1 100000000)) 10000)) 100))) * 2))) + 1)) : Int).toNat 0).toNat : Nat) : Int)))) ((0 : Nat) + (IntKind.wrap .i64 (s96.2.1 - 4)) : Int) ((((k0_.getD ((IntKind.wrap .u32 (((IntKind.wrap .u32 (Int.tdiv ((Int.tmod (IntKind.wrap .u32 (Int.tmod s96.1 100000000)) 10000)) 100))) * 2)) : Int).toNat 0).toNat : Nat) : Int)))) ((0 : Nat) + (IntKind.wrap .i64 (s96.2.1 - 5)) : Int) ((((k0_.getD ((IntKind.wrap .u32 (((IntKind.wrap .u32 (((Int.tmod ((IntKind.wrap .u32 (Int.tdiv (IntKind.wrap .u32 (Int.tmod s96.1 100000000)) 10000))) 100)) * 2))) + 1)) : Int).toNat 0).toNat : Nat) : Int))).flatMap (encI .u8)))]⟩) (c := Nat.ble (0 * 1 + ((IntKind.wrap .i64 (s96.2.1 - 5)) : Int).toNat * 1 + ((encI .u8) ((((k0_.getD ((IntKind.wrap .u32 (((IntKind.wrap .u32 (((Int.tmod ((IntKind.wrap .u32 (Int.tdiv (IntKind.wrap .u32 (Int.tmod s96.1 100000000)) 10000))) 100)) * 2))) + 1)) : Int).toNat 0).toNat : Nat) : Int))).length) (((setAt ((setAt ((setAt ((setAt s96.2.2 ((0 : Nat) + (IntKind.wrap .i64 (s96.2.1 - 1)) : Int) ((((k0_.getD ((IntKind.wrap .u32 (((IntKind.wrap .u32 (((Int.tmod ((Int.tmod (IntKind.wrap .u32 (Int.tmod s96.1 100000000)) 10000)) 100)) * 2))) + 1)) : Int).toNat 0).toNat : Nat) : Int)))) ((0 : Nat) + (IntKind.wrap .i64 (s96.2.1 - 2)) : Int) ((((k0_.getD ((IntKind.wrap .u32 (((Int.tmod ((Int.tmod (IntKind.wrap .u32 (Int.tmod s96.1 100000000)) 10000)) 100)) * 2)) : Int).toNat 0).toNat : Nat) : Int)))) ((0 : Nat) + (IntKind.wrap .i64 (s96.2.1 - 3)) : Int) ((((k0_.getD ((IntKind.wrap .u32 (((IntKind.wrap .u32 (((IntKind.wrap .u32 (Int.tdiv ((Int.tmod (IntKind.wrap .u32 (Int.tmod s96.1 100000000)) 10000)) 100))) * 2))) + 1)) : Int).toNat 0).toNat : Nat) : Int)))) ((0 : Nat) + (IntKind.wrap .i64 (s96.2.1 - 4)) : Int) ((((k0_.getD ((IntKind.wrap .u32 (((IntKind.wrap .u32 (Int.tdiv ((Int.tmod (IntKind.wrap .u32 (Int.tmod s96.1 100000000)) 10000)) 100))) * 2)) : Int).toNat 0).toNat : Nat) : Int)))).flatMap (encI .u8)).length) (tr2 := [([], []), ([], []), ([], []), ([], []), ([], []), ([], []), ([], []), ([], []), ([], []), ([], []), ([], []), ([], []), ([0, 1], [0])]) (H2 := [.box (((setAt ((setAt ((setAt ((setAt ((setAt s96.2.2 ((0 : Nat) + (IntKind.wrap .i64 (s96.2.1 - 1)) : Int) ((((k0_.getD ((IntKind.wrap .u32 (((IntKind.wrap .u32 (((Int.tmod ((Int.tmod (IntKind.wrap .u32 (Int.tmod s96.1 100000000)) 10000)) 100)) * 2))) + 1)) : Int).toNat 0).toNat : Nat) : Int)))) ((0 : Nat) + (IntKind.wrap .i64 (s96.2.1 - 2)) : Int) ((((k0_.getD ((IntKind.wrap .u32 (((Int.tmod ((Int.tmod (IntKind.wrap .u32 (Int.tmod s96.1 100000000)) 10000)) 100)) * 2)) : Int).toNat 0).toNat : Nat) : Int)))) ((0 : Nat) + (IntKind.wrap .i64 (s96.2.1 - 3)) : Int) ((((k0_.getD ((IntKind.wrap .u32 (((IntKind.wrap .u32 (((IntKind.wrap .u32 (Int.tdiv ((Int.tmod (IntKind.wrap .u32 (Int.tmod s96.1 100000000)) 10000)) 100))) * 2))) + 1)) : Int).toNat 0).toNat : Nat) : Int)))) ((0 : Nat) + (IntKind.wrap .i64 (s96.2.1 - 4)) : Int) ((((k0_.getD ((IntKind.wrap .u32 (((IntKind.wrap .u32 (Int.tdiv ((Int.tmod (IntKind.wrap .u32 (Int.tmod s96.1 100000000)) 10000)) 100))) * 2)) : Int).toNat 0).toNat : Nat) : Int)))) ((0 : Nat) + (IntKind.wrap .i64 (s96.2.1 - 5)) : Int) ((((k0_.getD ((IntKind.wrap .u32 (((IntKind.wrap .u32 (((Int.tmod ((IntKind.wrap .u32 (Int.tdiv (IntKind.wrap .u32 (Int.tmod s96.1 100000000)) 10000))) 100)) * 2))) + 1)) : Int).toNat 0).toNat : Nat) : Int)))).flatMap (encI .u8))]) (by kernel_rfl) (storeB_ok (encI_len .u8) hm) (fun hc => N.storeB (o := 0) (encI_len .u8) hm) (by kernel_rfl) ?_
   obtain ⟨hm, h176⟩ := asrt h175
   refine kQ 80 (.ptr 0 (0 + ((IntKind.wrap .i64 (s96.2.1 - 6)) : Int).toNat * 1)) [] (tr2 := [([], []), ([], []), ([], []), ([], []), ([], []), ([], []), ([], []), ([], []), ([], []), ([], []), ([], []), ([], []), ([0, 1], [0]), ([], [])]) hm ?_
   obtain ⟨hm, h177⟩ := asrt h176
   refine RJ.relS (d := none) (ef' := ⟨.undef, [0], [(0, .box ((setAt ((setAt ((setAt ((setAt ((setAt ((setAt s96.2.2 ((0 : Nat) + (IntKind.wrap .i64 (s96.2.1 - 1)) : Int) ((((k0_.getD ((IntKind.wrap .u32 (((IntKind.wrap .u32 (((Int.tmod ((Int.tmod (IntKind.wrap .u32 (Int.tmod s96.1 100000000)) 10000)) 100)) * 2))) + 1)) : Int).toNat 0).toNat : Nat) : Int)))) ((0 : Nat) + (IntKind.wrap .i64 (s96.2.1 - 2)) : Int) ((((k0_.getD ((IntKind.wrap .u32 (((Int.tmod ((Int.tmod (IntKind.wrap .u32 (Int.tmod s96.1 100000000)) 10000)) 100)) * 2)) : Int).toNat 0).toNat : Nat) : Int)))) ((0 : Nat) + (IntKind.wrap .i64 (s96.2.1 - 3)) : Int) ((((k0_.getD ((IntKind.wrap .u32 (((IntKind.wrap .u32 (((IntKind.wrap .u32 (Int.tdiv ((Int.tmod (IntKind.wrap .u32 (Int.tmod s96.1 100000000)) 10000)) 100))) * 2))) + 1)) : Int).toNat 0).toNat : Nat) : Int)))) ((0 : Nat) + (IntKind.wrap .i64 (s96.2.1 - 4)) : Int) ((((k0_.getD ((IntKind.wrap .u32 (((IntKind.wrap .u32 (Int.tdiv ((Int.tmod (IntKind.wrap .u32 (Int.tmod s96.1 100000000)) 10000)) 100))) * 2)) : Int).toNat 0).toNat : Nat) : Int)))) ((0 : Nat) + (IntKind.wrap .i64 (s96.2.1 - 5)) : Int) ((((k0_.getD ((IntKind.wrap .u32 (((IntKind.wrap .u32 (((Int.tmod ((IntKind.wrap .u32 (Int.tdiv (IntKind.wrap .u32 (Int.tmod s96.1 100000000)) 10000))) 100)) * 2))) + 1)) : Int).toNat 0).toNat : Nat) : Int)))) ((0 : Nat) + (IntKind.wrap .i64 (s96.2.1 - 6)) : Int) ((((k0_.getD ((IntKind.wrap .u32 (((Int.tmod ((IntKind.wrap .u32 (Int.tdiv (IntKind.wrap .u32 (Int.tmod s96.1 100000000)) 10000))) 100)) * 2)) : Int).toNat 0).toNat : Nat) : Int))).flatMap (encI .u8)))]⟩) (c := Nat.ble (0 * 1 + ((IntKind.wrap .i64 (s96.2.1 - 6)) : Int).toNat * 1 + ((encI .u8) ((((k0_.getD ((IntKind.wrap .u32 (((Int.tmod ((IntKind.wrap .u32 (Int.tdiv (IntKind.wrap .u32 (Int.tmod s96.1 100000000)) 10000))) 100)) * 2)) : Int).toNat 0).toNat : Nat) : Int))).length) (((setAt ((setAt ((setAt ((setAt ((setAt s96.2.2 ((0 : Nat) + (IntKind.wrap .i64 (s96.2.1 - 1)) : Int) ((((k0_.getD ((IntKind.wrap .u32 (((IntKind.wrap .u32 (((Int.tmod ((Int.tmod (IntKind.wrap .u32 (Int.tmod s96.1 100000000)) 10000)) 100)) * 2))) + 1)) : Int).toNat 0).toNat : Nat) : Int)))) ((0 : Nat) + (IntKind.wrap .i64 (s96.2.1 - 2)) : Int) ((((k0_.getD ((IntKind.wrap .u32 (((Int.tmod ((Int.tmod (IntKind.wrap .u32 (Int.tmod s96.1 100000000)) 10000)) 100)) * 2)) : Int).toNat 0).toNat : Nat) : Int)))) ((0 : Nat) + (IntKind.wrap .i64 (s96.2.1 - 3)) : Int) ((((k0_.getD ((IntKind.wrap .u32 (((IntKind.wrap .u32 (((IntKind.wrap .u32 (Int.tdiv ((Int.tmod (IntKind.wrap .u32 (Int.tmod s96.1 100000000)) 10000)) 100))) * 2))) + 1)) : Int).toNat 0).toNat : Nat) : Int)))) ((0 : Nat) + (IntKind.wrap .i64 (s96.2.1 - 4)) : Int) ((((k0_.getD ((IntKind.wrap .u32 (((IntKind.wrap .u32 (Int.tdiv ((Int.tmod (IntKind.wrap .u32 (Int.tmod s96.1 100000000)) 10000)) 100))) * 2)) : Int).toNat 0).toNat : Nat) : Int)))) ((0 : Nat) + (IntKind.wrap .i64 (s96.2.1 - 5)) : Int) ((((k0_.getD ((IntKind.wrap .u32 (((IntKind.wrap .u32 (((Int.tmod ((IntKind.wrap .u32 (Int.tdiv (IntKind.wrap .u32 (Int.tmod s96.1 100000000)) 10000))) 100)) * 2))) + 1)) : Int).toNat 0).toNat : Nat) : Int)))).flatMap (encI .u8)).length) (tr2 := [([], []), ([], []), ([], []), ([], []), ([], []), ([], []), ([], []), ([], []), ([], []), ([], []), ([], []), ([], []), ([0, 1], [0]), ([], []), ([0, 1], [0])]) (H2 := [.box (((setAt ((setAt ((setAt ((setAt ((setAt ((setAt s96.2.2 ((0 : Nat) + (IntKind.wrap .i64 (s96.2.1 - 1)) : Int) ((((k0_.getD ((IntKind.wrap .u32 (((IntKind.wrap .u32 (((Int.tmod ((Int.tmod (IntKind.wrap .u32 (Int.tmod s96.1 100000000)) 10000)) 100)) * 2))) + 1)) : Int).toNat 0).toNat : Nat) : Int)))) ((0 : Nat) + (IntKind.wrap .i64 (s96.2.1 - 2)) : Int) ((((k0_.getD ((IntKind.wrap .u32 (((Int.tmod ((Int.tmod (IntKind.wrap .u32 (Int.tmod s96.1 100000000)) 10000)) 100)) * 2)) : Int).toNat 0).toNat : Nat) : Int)))) ((0 : Nat) + (IntKind.wrap .i64 (s96.2.1 - 3)) : Int) ((((k0_.getD ((IntKind.wrap .u32 (((IntKind.wrap .u32 (((IntKind.wrap .u32 (Int.tdiv ((Int.tmod (IntKind.wrap .u32 (Int.tmod s96.1 100000000)) 10000)) 100))) * 2))) + 1)) : Int).toNat 0).toNat : Nat) : Int)))) ((0 : Nat) + (IntKind.wrap .i64 (s96.2.1 - 4)) : Int) ((((k0_.getD ((IntKind.wrap .u32 (((IntKind.wrap .u32 (Int.tdiv ((Int.tmod (IntKind.wrap .u32 (Int.tmod s96.1 100000000)) 10000)) 100))) * 2)) : Int).toNat 0).toNat : Nat) : Int)))) ((0 : Nat) + (IntKind.wrap .i64 (s96.2.1 - 5)) : Int) ((((k0_.getD ((IntKind.wrap .u32 (((IntKind.wrap .u32 (((Int.tmod ((IntKind.wrap .u32 (Int.tdiv (IntKind.wrap .u32 (Int.tmod s96.1 100000000)) 10000))) 100)) * 2))) + 1)) : Int).toNat 0).toNat : Nat) : Int)))) ((0 : Nat) + (IntKind.wrap .i64 (s96.2.1 - 6)) : Int) ((((k0_.getD ((IntKind.wrap .u32 (((Int.tmod ((IntKind.wrap .u32 (Int.tdiv (IntKind.wrap .u32 (Int.tmod s96.1 100000000)) 10000))) 100)) * 2)) : Int).toNat 0).toNat : Nat) : Int)))).flatMap (encI .u8))]) (by kernel_rfl) (storeB_ok (encI_len .u8) hm) (fun hc => N.storeB (o := 0) (encI_len .u8) hm) (by kernel_rfl) ?_
   refine kEN ?_
   refine kS ?_
   refine J.keep [0, 1, 4, 10] (L2 := [(0, .sl 0 0 x0.toNat 1), (1, .int .u64 (IntKind.wrap .u64 (Int.tdiv s96.1 100000000))), (4, .int .i64 s96.2.1), (10, .int .u32 ((IntKind.wrap .u32 (((IntKind.wrap .u32 (Int.tdiv ((IntKind.wrap .u32 (Int.tdiv (IntKind.wrap .u32 (Int.tmod s96.1 100000000)) 10000))) 100))) * 2))))]) (by kernel_rfl) ?_
   refine K.draw (by kernel_rfl) (by kernel_rfl) (by kernel_rfl) (H2 := [.box (((setAt ((setAt ((setAt ((setAt ((setAt ((setAt s96.2.2 ((0 : Nat) + (IntKind.wrap .i64 (s96.2.1 - 1)) : Int) ((((k0_.getD ((IntKind.wrap .u32 (((IntKind.wrap .u32 (((Int.tmod ((Int.tmod (IntKind.wrap .u32 (Int.tmod s96.1 100000000)) 10000)) 100)) * 2))) + 1)) : Int).toNat 0).toNat : Nat) : Int)))) ((0 : Nat) + (IntKind.wrap .i64 (s96.2.1 - 2)) : Int) ((((k0_.getD ((IntKind.wrap .u32 (((Int.tmod ((Int.tmod (IntKind.wrap .u32 (Int.tmod s96.1 100000000)) 10000)) 100)) * 2)) : Int).toNat 0).toNat : Nat) : Int)))) ((0 : Nat) + (IntKind.wrap .i64 (s96.2.1 - 3)) : Int) ((((k0_.getD ((IntKind.wrap .u32 (((IntKind.wrap .u32 (((IntKind.wrap .u32 (Int.tdiv ((Int.tmod (IntKind.wrap .u32 (Int.tmod s96.1 100000000)) 10000)) 100))) * 2))) + 1)) : Int).toNat 0).toNat : Nat) : Int)))) ((0 : Nat) + (IntKind.wrap .i64 (s96.2.1 - 4)) : Int) ((((k0_.getD ((IntKind.wrap .u32 (((IntKind.wrap .u32 (Int.tdiv ((Int.tmod (IntKind.wrap .u32 (Int.tmod s96.1 100000000)) 10000)) 100))) * 2)) : Int).toNat 0).toNat : Nat) : Int)))) ((0 : Nat) + (IntKind.wrap .i64 (s96.2.1 - 5)) : Int) ((((k0_.getD ((IntKind.wrap .u32 (((IntKind.wrap .u32 (((Int.tmod ((IntKind.wrap .u32 (Int.tdiv (IntKind.wrap .u32 (Int.tmod s96.1 100000000)) 10000))) 100)) * 2))) + 1)) : Int).toNat 0).toNat : Nat) : Int)))) ((0 : Nat) + (IntKind.wrap .i64 (s96.2.1 - 6)) : Int) ((((k0_.getD ((IntKind.wrap .u32 (((Int.tmod ((IntKind.wrap .u32 (Int.tdiv (IntKind.wrap .u32 (Int.tmod s96.1 100000000)) 10000))) 100)) * 2)) : Int).toNat 0).toNat : Nat) : Int)))).flatMap (encI .u8))]) (by kernel_rfl) (n := 1) (by kernel_rfl) ?_
   refine kD 8 ?_
   obtain ⟨hm, h178⟩ := asrt h177
   refine kQ 89 (.int .u8 (((k0_.getD ((IntKind.wrap .u32 (((IntKind.wrap .u32 (((IntKind.wrap .u32 (Int.tdiv ((IntKind.wrap .u32 (Int.tdiv (IntKind.wrap .u32 (Int.tmod s96.1 100000000)) 10000))) 100))) * 2))) + 1)) : Int).toNat 0).toNat : Nat) : Int)) [] (tr2 := [([], []), ([], []), ([], []), ([], []), ([], []), ([], []), ([], []), ([], []), ([], [])]) hm ?_
   refine kD 1 ?_
   obtain ⟨hm, h179⟩ := asrt h178
   refine kQ 91 (.int .u8 (((k0_.getD ((IntKind.wrap .u32 (((IntKind.wrap .u32 (Int.tdiv ((IntKind.wrap .u32 (Int.tdiv (IntKind.wrap .u32 (Int.tmod s96.1 100000000)) 10000))) 100))) * 2)) : Int).toNat 0).toNat : Nat) : Int)) [] (tr2 := [([], []), ([], []), ([], []), ([], []), ([], []), ([], []), ([], []), ([], []), ([], []), ([], []), ([], [])]) hm ?_
   obtain ⟨hm, h180⟩ := asrt h179
   refine kQ 92 (.ptr 0 (0 + ((IntKind.wrap .i64 (s96.2.1 - 7)) : Int).toNat * 1)) [] (tr2 := [([], []), ([], []), ([], []), ([], []), ([], []), ([], []), ([], []), ([], []), ([], []), ([], []), ([], []), ([], [])]) hm ?_
   obtain ⟨hm, h181⟩ := asrt h180
   refine RJ.relS (d := none) (ef' := ⟨.undef, [0], [(0, .box ((setAt ((setAt ((setAt ((setAt ((setAt ((setAt ((setAt s96.2.2 ((0 : Nat) + (IntKind.wrap .i64 (s96.2.1 - 1)) : Int) ((((k0_.getD ((IntKind.wrap .u32 (((IntKind.wrap .u32 (((Int.tmod ((Int.tmod (IntKind.wrap .u32 (Int.tmod s96.1 100000000)) 10000)) 100)) * 2))) + 1)) : Int).toNat 0).toNat : Nat) : Int)))) ((0 : Nat) + (IntKind.wrap .i64 (s96.2.1 - 2)) : Int) ((((k0_.getD ((IntKind.wrap .u32 (((Int.tmod ((Int.tmod (IntKind.wrap .u32 (Int.tmod s96.1 100000000)) 10000)) 100)) * 2)) : Int).toNat 0).toNat : Nat) : Int)))) ((0 : Nat) + (IntKind.wrap .i64 (s96.2.1 - 3)) : Int) ((((k0_.getD ((IntKind.wrap .u32 (((IntKind.wrap .u32 (((IntKind.wrap .u32 (Int.tdiv ((Int.tmod (IntKind.wrap .u32 (Int.tmod s96.1 100000000)) 10000)) 100))) * 2))) + 1)) : Int).toNat 0).toNat : Nat) : Int)))) ((0 : Nat) + (IntKind.wrap .i64 (s96.2.1 - 4)) : Int) ((((k0_.getD ((IntKind.wrap .u32 (((IntKind.wrap .u32 (Int.tdiv ((Int.tmod (IntKind.wrap .u32 (Int.tmod s96.1 100000000)) 10000)) 100))) * 2)) : Int).toNat 0).toNat : Nat) : Int)))) ((0 : Nat) + (IntKind.wrap .i64 (s96.2.1 - 5)) : Int) ((((k0_.getD ((IntKind.wrap .u32 (((IntKind.wrap .u32 (((Int.tmod ((IntKind.wrap .u32 (Int.tdiv (IntKind.wrap .u32 (Int.tmod s96.1 100000000)) 10000))) 100)) * 2))) + 1)) : Int).toNat 0).toNat : Nat) : Int)))) ((0 : Nat) + (IntKind.wrap .i64 (s96.2.1 - 6)) : Int) ((((k0_.getD ((IntKind.wrap .u32 (((Int.tmod ((IntKind.wrap .u32 (Int.tdiv (IntKind.wrap .u32 (Int.tmod s96.1 100000000)) 10000))) 100)) * 2)) : Int).toNat 0).toNat : Nat) : Int)))) ((0 : Nat) + (IntKind.wrap .i64 (s96.2.1 - 7)) : Int) ((((k0_.getD ((IntKind.wrap .u32 (((IntKind.wrap .u32 (((IntKind.wrap .u32 (Int.tdiv ((IntKind.wrap .u32 (Int.tdiv (IntKind.wrap .u32 (Int.tmod s96.1 100000000)) 10000))) 100))) * 2))) + 1)) : Int).toNat 0).toNat : Nat) : Int))).flatMap (encI .u8)))]⟩) (c := Nat.ble (0 * 1 + ((IntKind.wrap .i64 (s96.2.1 - 7)) : Int).toNat * 1 + ((encI .u8) ((((k0_.getD ((IntKind.wrap .u32 (((IntKind.wrap .u32 (((IntKind.wrap .u32 (Int.tdiv ((IntKind.wrap .u32 (Int.tdiv (IntKind.wrap .u32 (Int.tmod s96.1 100000000)) 10000))) 100))) * 2))) + 1)) : Int).toNat 0).toNat : Nat) : Int))).length) (((setAt ((setAt ((setAt ((setAt ((setAt ((setAt s96.2.2 ((0 : Nat) + (IntKind.wrap .i64 (s96.2.1 - 1)) : Int) ((((k0_.getD ((IntKind.wrap .u32 (((IntKind.wrap .u32 (((Int.tmod ((Int.tmod (IntKind.wrap .u32 (Int.tmod s96.1 100000000)) 10000)) 100)) * 2))) + 1)) : Int).toNat 0).toNat : Nat) : Int)))) ((0 : Nat) + (IntKind.wrap .i64 (s96.2.1 - 2)) : Int) ((((k0_.getD ((IntKind.wrap .u32 (((Int.tmod ((Int.tmod (IntKind.wrap .u32 (Int.tmod s96.1 100000000)) 10000)) 100)) * 2)) : Int).toNat 0).toNat : Nat) : Int)))) ((0 : Nat) + (IntKind.wrap .i64 (s96.2.1 - 3)) : Int) ((((k0_.getD ((IntKind.wrap .u32 (((IntKind.wrap .u32 (((IntKind.wrap .u32 (Int.tdiv ((Int.tmod (IntKind.wrap .u32 (Int.tmod s96.1 100000000)) 10000)) 100))) * 2))) + 1)) : Int).toNat 0).toNat : Nat) : Int)))) ((0 : Nat) + (IntKind.wrap .i64 (s96.2.1 - 4)) : Int) ((((k0_.getD ((IntKind.wrap .u32 (((IntKind.wrap .u32 (Int.tdiv ((Int.tmod (IntKind.wrap .u32 (Int.tmod s96.1 100000000)) 10000)) 100))) * 2)) : Int).toNat 0).toNat : Nat) : Int)))) ((0 : Nat) + (IntKind.wrap .i64 (s96.2.1 - 5)) : Int) ((((k0_.getD ((IntKind.wrap .u32 (((IntKind.wrap .u32 (((Int.tmod ((IntKind.wrap .u32 (Int.tdiv (IntKind.wrap .u32 (Int.tmod s96.1 100000000)) 10000))) 100)) * 2))) + 1)) : Int).toNat 0).toNat : Nat) : Int)))) ((0 : Nat) + (IntKind.wrap .i64 (s96.2.1 - 6)) : Int) ((((k0_.getD ((IntKind.wrap .u32 (((Int.tmod ((IntKind.wrap .u32 (Int.tdiv (IntKind.wrap .u32 (Int.tmod s96.1 100000000)) 10000))) 100)) * 2)) : Int).toNat 0).toNat : Nat) : Int)))).flatMap (encI .u8)).length) (tr2 := [([], []), ([], []), ([], []), ([], []), ([], []), ([], []), ([], []), ([], []), ([], []), ([], []), ([], []), ([], []), ([0, 1], [0])]) (H2 := [.box (((setAt ((setAt ((setAt ((setAt ((setAt ((setAt ((setAt s96.2.2 ((0 : Nat) + (IntKind.wrap .i64 (s96.2.1 - 1)) : Int) ((((k0_.getD ((IntKind.wrap .u32 (((IntKind.wrap .u32 (((Int.tmod ((Int.tmod (IntKind.wrap .u32 (Int.tmod s96.1 100000000)) 10000)) 100)) * 2))) + 1)) : Int).toNat 0).toNat : Nat) : Int)))) ((0 : Nat) + (IntKind.wrap .i64 (s96.2.1 - 2)) : Int) ((((k0_.getD ((IntKind.wrap .u32 (((Int.tmod ((Int.tmod (IntKind.wrap .u32 (Int.tmod s96.1 100000000)) 10000)) 100)) * 2)) : Int).toNat 0).toNat : Nat) : Int)))) ((0 : Nat) + (IntKind.wrap .i64 (s96.2.1 - 3)) : Int) ((((k0_.getD ((IntKind.wrap .u32 (((IntKind.wrap .u32 (((IntKind.wrap .u32 (Int.tdiv ((Int.tmod (IntKind.wrap .u32 (Int.tmod s96.1 100000000)) 10000)) 100))) * 2))) + 1)) : Int).toNat 0).toNat : Nat) : Int)))) ((0 : Nat) + (IntKind.wrap .i64 (s96.2.1 - 4)) : Int) ((((k0_.getD ((IntKind.wrap .u32 (((IntKind.wrap .u32 (Int.tdiv ((Int.tmod (IntKind.wrap .u32 (Int.tmod s96.1 100000000)) 10000)) 100))) * 2)) : Int).toNat 0).toNat : Nat) : Int)))) ((0 : Nat) + (IntKind.wrap .i64 (s96.2.1 - 5)) : Int) ((((k0_.getD ((IntKind.wrap .u32 (((IntKind.wrap .u32 (((Int.tmod ((IntKind.wrap .u32 (Int.tdiv (IntKind.wrap .u32 (Int.tmod s96.1 100000000)) 10000))) 100)) * 2))) + 1)) : Int).toNat 0).toNat : Nat) : Int)))) ((0 : Nat) + (IntKind.wrap .i64 (s96.2.1 - 6)) : Int) ((((k0_.getD ((IntKind.wrap .u32 (((Int.tmod ((IntKind.wrap .u32 (Int.tdiv (IntKind.wrap .u32 (Int.tmod s96.1 100000000)) 10000))) 100)) * 2)) : Int).toNat 0).toNat : Nat) : Int)))) ((0 : Nat) + (IntKind.wrap .i64 (s96.2.1 - 7)) : Int) ((((k0_.getD ((IntKind.wrap .u32 (((IntKind.wrap .u32 (((IntKind.wrap .u32 (Int.tdiv ((IntKind.wrap .u32 (Int.tdiv (IntKind.wrap .u32 (Int.tmod s96.1 100000000)) 10000))) 100))) * 2))) + 1)) : Int).toNat 0).toNat : Nat) : Int)))).flatMap (encI .u8))]) (by kernel_rfl) (storeB_ok (encI_len .u8) hm) (fun hc => N.storeB (o := 0) (encI_len .u8) hm) (by kernel_rfl) ?_
   obtain ⟨hm, h182⟩ := asrt h181
   refine kQ 93 (.ptr 0 (0 + ((IntKind.wrap .i64 (s96.2.1 - 8)) : Int).toNat * 1)) [] (tr2 := [([], []), ([], []), ([], []), ([], []), ([], []), ([], []), ([], []), ([], []), ([], []), ([], []), ([], []), ([], []), ([0, 1], [0]), ([], [])]) hm ?_
   obtain ⟨hm, h183⟩ := asrt h182
   refine RJ.relS (d := none) (ef' := ⟨.undef, [0], [(0, .box ((setAt ((setAt ((setAt ((setAt ((setAt ((setAt ((setAt ((setAt s96.2.2 ((0 : Nat) + (IntKind.wrap .i64 (s96.2.1 - 1)) : Int) ((((k0_.getD ((IntKind.wrap .u32 (((IntKind.wrap .u32 (((Int.tmod ((Int.tmod (IntKind.wrap .u32 (Int.tmod s96.1 100000000)) 10000)) 100)) * 2))) + 1)) : Int).toNat 0).toNat : Nat) : Int)))) ((0 : Nat) + (IntKind.wrap .i64 (s96.2.1 - 2)) : Int) ((((k0_.getD ((IntKind.wrap .u32 (((Int.tmod ((Int.tmod (IntKind.wrap .u32 (Int.tmod s96.1 100000000)) 10000)) 100)) * 2)) : Int).toNat 0).toNat : Nat) : Int)))) ((0 : Nat) + (IntKind.wrap .i64 (s96.2.1 - 3)) : Int) ((((k0_.getD ((IntKind.wrap .u32 (((IntKind.wrap .u32 (((IntKind.wrap .u32 (Int.tdiv ((Int.tmod (IntKind.wrap .u32 (Int.tmod s96.1 100000000)) 10000)) 100))) * 2))) + 1)) : Int).toNat 0).toNat : Nat) : Int)))) ((0 : Nat) + (IntKind.wrap .i64 (s96.2.1 - 4)) : Int) ((((k0_.getD ((IntKind.wrap .u32 (((IntKind.wrap .u32 (Int.tdiv ((Int.tmod (IntKind.wrap .u32 (Int.tmod s96.1 100000000)) 10000)) 100))) * 2)) : Int).toNat 0).toNat : Nat) : Int)))) ((0 : Nat) + (IntKind.wrap .i64 (s96.2.1 - 5)) : Int) ((((k0_.getD ((IntKind.wrap .u32 (((IntKind.wrap .u32 (((Int.tmod ((IntKind.wrap .u32 (Int.tdiv (IntKind.wrap .u32 (Int.tmod s96.1 100000000)) 10000))) 100)) * 2))) + 1)) : Int).toNat 0).toNat : Nat) : Int)))) ((0 : Nat) + (IntKind.wrap .i64 (s96.2.1 - 6)) : Int) ((((k0_.getD ((IntKind.wrap .u32 (((Int.tmod ((IntKind.wrap .u32 (Int.tdiv (IntKind.wrap .u32 (Int.tmod s96.1 100000000)) 10000))) 100)) * 2)) : Int).toNat 0).toNat : Nat) : Int)))) ((0 : Nat) + (IntKind.wrap .i64 (s96.2.1 - 7)) : Int) ((((k0_.getD ((IntKind.wrap .u32 (((IntKind.wrap .u32 (((IntKind.wrap .u32 (Int.tdiv ((IntKind.wrap .u32 (Int.tdiv (IntKind.wrap .u32 (Int.tmod s96.1 100000000)) 10000))) 100))) * 2))) + 1)) : Int).toNat 0).toNat : Nat) : Int)))) ((0 : Nat) + (IntKind.wrap .i64 (s96.2.1 - 8)) : Int) ((((k0_.getD ((IntKind.wrap .u32 (((IntKind.wrap .u32 (Int.tdiv ((IntKind.wrap .u32 (Int.tdiv (IntKind.wrap .u32 (Int.tmod s96.1 100000000)) 10000))) 100))) * 2)) : Int).toNat 0).toNat : Nat) : Int))).flatMap (encI .u8)))]⟩) (c := Nat.ble (0 * 1 + ((IntKind.wrap .i64 (s96.2.1 - 8)) : Int).toNat * 1 + ((encI .u8) ((((k0_.getD ((IntKind.wrap .u32 (((IntKind.wrap .u32 (Int.tdiv ((IntKind.wrap .u32 (Int.tdiv (IntKind.wrap .u32 (Int.tmod s96.1 100000000)) 10000))) 100))) * 2)) : Int).toNat 0).toNat : Nat) : Int))).length) (((setAt ((setAt ((setAt ((setAt ((setAt ((setAt ((setAt s96.2.2 ((0 : Nat) + (IntKind.wrap .i64 (s96.2.1 - 1)) : Int) ((((k0_.getD ((IntKind.wrap .u32 (((IntKind.wrap .u32 (((Int.tmod ((Int.tmod (IntKind.wrap .u32 (Int.tmod s96.1 100000000)) 10000)) 100)) * 2))) + 1)) : Int).toNat 0).toNat : Nat) : Int)))) ((0 : Nat) + (IntKind.wrap .i64 (s96.2.1 - 2)) : Int) ((((k0_.getD ((IntKind.wrap .u32 (((Int.tmod ((Int.tmod (IntKind.wrap .u32 (Int.tmod s96.1 100000000)) 10000)) 100)) * 2)) : Int).toNat 0).toNat : Nat) : Int)))) ((0 : Nat) + (IntKind.wrap .i64 (s96.2.1 - 3)) : Int) ((((k0_.getD ((IntKind.wrap .u32 (((IntKind.wrap .u32 (((IntKind.wrap .u32 (Int.tdiv ((Int.tmod (IntKind.wrap .u32 (Int.tmod s96.1 100000000)) 10000)) 100))) * 2))) + 1)) : Int).toNat 0).toNat : Nat) : Int)))) ((0 : Nat) + (IntKind.wrap .i64 (s96.2.1 - 4)) : Int) ((((k0_.getD ((IntKind.wrap .u32 (((IntKind.wrap .u32 (Int.tdiv ((Int.tmod (IntKind.wrap .u32 (Int.tmod s96.1 100000000)) 10000)) 100))) * 2)) : Int).toNat 0).toNat : Nat) : Int)))) ((0 : Nat) + (IntKind.wrap .i64 (s96.2.1 - 5)) : Int) ((((k0_.getD ((IntKind.wrap .u32 (((IntKind.wrap .u32 (((Int.tmod ((IntKind.wrap .u32 (Int.tdiv (IntKind.wrap .u32 (Int.tmod s96.1 100000000)) 10000))) 100)) * 2))) + 1)) : Int).toNat 0).toNat : Nat) : Int)))) ((0 : Nat) + (IntKind.wrap .i64 (s96.2.1 - 6)) : Int) ((((k0_.getD ((IntKind.wrap .u32 (((Int.tmod ((IntKind.wrap .u32 (Int.tdiv (IntKind.wrap .u32 (Int.tmod s96.1 100000000)) 10000))) 100)) * 2)) : Int).toNat 0).toNat : Nat) : Int)))) ((0 : Nat) + (IntKind.wrap .i64 (s96.2.1 - 7)) : Int) ((((k0_.getD ((IntKind.wrap .u32 (((IntKind.wrap .u32 (((IntKind.wrap .u32 (Int.tdiv ((IntKind.wrap .u32 (Int.tdiv (IntKind.wrap .u32 (Int.tmod s96.1 100000000)) 10000))) 100))) * 2))) + 1)) : Int).toNat 0).toNat : Nat) : Int)))).flatMap (encI .u8)).length) (tr2 := [([], []), ([], []), ([], []), ([], []), ([], []), ([], []), ([], []), ([], []), ([], []), ([], []), ([], []), ([], []), ([0, 1], [0]), ([], []), ([0, 1], [0])]) (H2 := [.box (((setAt ((setAt ((setAt ((setAt ((setAt ((setAt ((setAt ((setAt s96.2.2 ((0 : Nat) + (IntKind.wrap .i64 (s96.2.1 - 1)) : Int) ((((k0_.getD ((IntKind.wrap .u32 (((IntKind.wrap .u32 (((Int.tmod ((Int.tmod (IntKind.wrap .u32 (Int.tmod s96.1 100000000)) 10000)) 100)) * 2))) + 1)) : Int).toNat 0).toNat : Nat) : Int)))) ((0 : Nat) + (IntKind.wrap .i64 (s96.2.1 - 2)) : Int) ((((k0_.getD ((IntKind.wrap .u32 (((Int.tmod ((Int.tmod (IntKind.wrap .u32 (Int.tmod s96.1 100000000)) 10000)) 100)) * 2)) : Int).toNat 0).toNat : Nat) : Int)))) ((0 : Nat) + (IntKind.wrap .i64 (s96.2.1 - 3)) : Int) ((((k0_.getD ((IntKind.wrap .u32 (((IntKind.wrap .u32 (((IntKind.wrap .u32 (Int.tdiv ((Int.tmod (IntKind.wrap .u32 (Int.tmod s96.1 100000000)) 10000)) 100))) * 2))) + 1)) : Int).toNat 0).toNat : Nat) : Int)))) ((0 : Nat) + (IntKind.wrap .i64 (s96.2.1 - 4)) : Int) ((((k0_.getD ((IntKind.wrap .u32 (((IntKind.wrap .u32 (Int.tdiv ((Int.tmod (IntKind.wrap .u32 (Int.tmod s96.1 100000000)) 10000)) 100))) * 2)) : Int).toNat 0).toNat : Nat) : Int)))) ((0 : Nat) + (IntKind.wrap .i64 (s96.2.1 - 5)) : Int) ((((k0_.getD ((IntKind.wrap .u32 (((IntKind.wrap .u32 (((Int.tmod ((IntKind.wrap .u32 (Int.tdiv (IntKind.wrap .u32 (Int.tmod s96.1 100000000)) 10000))) 100)) * 2))) + 1)) : Int).toNat 0).toNat : Nat) : Int)))) ((0 : Nat) + (IntKind.wrap .i64 (s96.2.1 - 6)) : Int) ((((k0_.getD ((IntKind.wrap .u32 (((Int.tmod ((IntKind.wrap .u32 (Int.tdiv (IntKind.wrap .u32 (Int.tmod s96.1 100000000)) 10000))) 100)) * 2)) : Int).toNat 0).toNat : Nat) : Int)))) ((0 : Nat) + (IntKind.wrap .i64 (s96.2.1 - 7)) : Int) ((((k0_.getD ((IntKind.wrap .u32 (((IntKind.wrap .u32 (((IntKind.wrap .u32 (Int.tdiv ((IntKind.wrap .u32 (Int.tdiv (IntKind.wrap .u32 (Int.tmod s96.1 100000000)) 10000))) 100))) * 2))) + 1)) : Int).toNat 0).toNat : Nat) : Int)))) ((0 : Nat) + (IntKind.wrap .i64 (s96.2.1 - 8)) : Int) ((((k0_.getD ((IntKind.wrap .u32 (((IntKind.wrap .u32 (Int.tdiv ((IntKind.wrap .u32 (Int.tdiv (IntKind.wrap .u32 (Int.tmod s96.1 100000000)) 10000))) 100))) * 2)) : Int).toNat 0).toNat : Nat) : Int)))).flatMap (encI .u8))]) (by kernel_rfl) (storeB_ok (encI_len .u8) hm) (fun hc => N.storeB (o := 0) (encI_len .u8) hm) (by kernel_rfl) ?_
   refine kEN ?_
   refine kR ?_
   refine kC 3 [0,1,4] ?_
   refine kE ?_
   refine PJ.blockNormal ?_
   obtain rfl := oi h183
   exact kLN [0, 1, 4]
  ·refine kF ?_
   refine K.exit 0 (by kernel_rfl) ?_
   refine PJ.passExit ?_
   obtain rfl := oi h159
   refine PJ.loopOut (fun e => nomatch e) (fun he185 => ?_)
   have h184 := congrArg some he185
   refine PJ.blockOut ?_
   obtain rfl := oi h184
   exact kN [0, 1, 4]
 ·refine kSR ?_
  refine kC 3 [0,4,12] ?_
  refine kEN ?_
  obtain ⟨s201, hy203, h205⟩ := bindS h95
  refine K.cutN (by kernel_rfl) (fun (s201 : Int × Int × (List Int)) => ([(0, .sl 0 0 x0.toNat 1), (4, .int .i64 s201.1), (12, .int .u32 s201.2.1)], [.box (s201.2.2.flatMap (encI .u8))])) s201 ?_ ?_
  ·refine kSR ?_
   refine kC 2 [0,4,12,99] ?_
   refine kEN ?_
   refine kBJ 99 hy203 (fun h207 => ?_) (fun h208 => ?_)
   ·refine kT ?_
    refine kSR ?_
    refine kC 3 [0,4,12,13] ?_
    refine kEN ?_
    refine kSR ?_
    refine kC 3 [0,4,12,13] ?_
    refine kEN ?_
    refine kSR ?_
    refine kC 8 [0,4,12,14,15] ?_
    refine kEN ?_
    refine kS ?_
    refine J.keep [0, 4, 12, 14, 15] (L2 := [(0, .sl 0 0 x0.toNat 1), (4, .int .i64 s91.2.1), (12, .int .u32 ((IntKind.wrap .u32 (Int.tdiv (IntKind.wrap .u32 s91.1) 10000)))), (14, .int .u32 ((IntKind.wrap .u32 (((IntKind.wrap .u32 (Int.tdiv (Int.tmod (IntKind.wrap .u32 s91.1) 10000) 100))) * 2)))), (15, .int .u32 ((IntKind.wrap .u32 (((Int.tmod (Int.tmod (IntKind.wrap .u32 s91.1) 10000) 100)) * 2))))]) (by kernel_rfl) ?_
    refine K.draw (by kernel_rfl) (by kernel_rfl) (by kernel_rfl) (H2 := [.box (s91.2.2.flatMap (encI .u8))]) (by kernel_rfl) (n := 1) (by kernel_rfl) ?_
    refine kD 8 ?_
    obtain ⟨hm, h209⟩ := asrt h207
    refine kQ 118 (.int .u8 (((k0_.getD ((IntKind.wrap .u32 (((IntKind.wrap .u32 (((Int.tmod (Int.tmod (IntKind.wrap .u32 s91.1) 10000) 100)) * 2))) + 1)) : Int).toNat 0).toNat : Nat) : Int)) [] (tr2 := [([], []), ([], []), ([], []), ([], []), ([], []), ([], []), ([], []), ([], []), ([], [])]) hm ?_
    refine kD 1 ?_
    obtain ⟨hm, h210⟩ := asrt h209
    refine kQ 120 (.int .u8 (((k0_.getD ((IntKind.wrap .u32 (((Int.tmod (Int.tmod (IntKind.wrap .u32 s91.1) 10000) 100)) * 2)) : Int).toNat 0).toNat : Nat) : Int)) [] (tr2 := [([], []), ([], []), ([], []), ([], []), ([], []), ([], []), ([], []), ([], []), ([], []), ([], []), ([], [])]) hm ?_
    obtain ⟨hm, h211⟩ := asrt h210
    refine kQ 121 (.ptr 0 (0 + ((IntKind.wrap .i64 (s91.2.1 - 1)) : Int).toNat * 1)) [] (tr2 := [([], []), ([], []), ([], []), ([], []), ([], []), ([], []), ([], []), ([], []), ([], []), ([], []), ([], []), ([], [])]) hm ?_
    obtain ⟨hm, h212⟩ := asrt h211
    refine RJ.relS (d := none) (ef' := ⟨.undef, [0], [(0, .box ((setAt s91.2.2 ((0 : Nat) + (IntKind.wrap .i64 (s91.2.1 - 1)) : Int) ((((k0_.getD ((IntKind.wrap .u32 (((IntKind.wrap .u32 (((Int.tmod (Int.tmod (IntKind.wrap .u32 s91.1) 10000) 100)) * 2))) + 1)) : Int).toNat 0).toNat : Nat) : Int))).flatMap (encI .u8)))]⟩) (c := Nat.ble (0 * 1 + ((IntKind.wrap .i64 (s91.2.1 - 1)) : Int).toNat * 1 + ((encI .u8) ((((k0_.getD ((IntKind.wrap .u32 (((IntKind.wrap .u32 (((Int.tmod (Int.tmod (IntKind.wrap .u32 s91.1) 10000) 100)) * 2))) + 1)) : Int).toNat 0).toNat : Nat) : Int))).length) (s91.2.2.flatMap (encI .u8)).length) (tr2 := [([], []), ([], []), ([], []), ([], []), ([], []), ([], []), ([], []), ([], []), ([], []), ([], []), ([], []), ([], []), ([0, 1], [0])]) (H2 := [.box (((setAt s91.2.2 ((0 : Nat) + (IntKind.wrap .i64 (s91.2.1 - 1)) : Int) ((((k0_.getD ((IntKind.wrap .u32 (((IntKind.wrap .u32 (((Int.tmod (Int.tmod (IntKind.wrap .u32 s91.1) 10000) 100)) * 2))) + 1)) : Int).toNat 0).toNat : Nat) : Int)))).flatMap (encI .u8))]) (by kernel_rfl) (storeB_ok (encI_len .u8) hm) (fun hc => N.storeB (o := 0) (encI_len .u8) hm) (by kernel_rfl) ?_
    obtain ⟨hm, h213⟩ := asrt h212
    refine kQ 122 (.ptr 0 (0 + ((IntKind.wrap .i64 (s91.2.1 - 2)) : Int).toNat * 1)) [] (tr2 := [([], []), ([], []), ([], []), ([], []), ([], []), ([], []), ([], []), ([], []), ([], []), ([], []), ([], []), ([], []), ([0, 1], [0]), ([], [])]) hm ?_
    obtain ⟨hm, h214⟩ := asrt h213
    refine RJ.relS (d := none) (ef' := ⟨.undef, [0], [(0, .box ((setAt ((setAt s91.2.2 ((0 : Nat) + (IntKind.wrap .i64 (s91.2.1 - 1)) : Int) ((((k0_.getD ((IntKind.wrap .u32 (((IntKind.wrap .u32 (((Int.tmod (Int.tmod (IntKind.wrap .u32 s91.1) 10000) 100)) * 2))) + 1)) : Int).toNat 0).toNat : Nat) : Int)))) ((0 : Nat) + (IntKind.wrap .i64 (s91.2.1 - 2)) : Int) ((((k0_.getD ((IntKind.wrap .u32 (((Int.tmod (Int.tmod (IntKind.wrap .u32 s91.1) 10000) 100)) * 2)) : Int).toNat 0).toNat : Nat) : Int))).flatMap (encI .u8)))]⟩) (c := Nat.ble (0 * 1 + ((IntKind.wrap .i64 (s91.2.1 - 2)) : Int).toNat * 1 + ((encI .u8) ((((k0_.getD ((IntKind.wrap .u32 (((Int.tmod (Int.tmod (IntKind.wrap .u32 s91.1) 10000) 100)) * 2)) : Int).toNat 0).toNat : Nat) : Int))).length) (((setAt s91.2.2 ((0 : Nat) + (IntKind.wrap .i64 (s91.2.1 - 1)) : Int) ((((k0_.getD ((IntKind.wrap .u32 (((IntKind.wrap .u32 (((Int.tmod (Int.tmod (IntKind.wrap .u32 s91.1) 10000) 100)) * 2))) + 1)) : Int).toNat 0).toNat : Nat) : Int)))).flatMap (encI .u8)).length) (tr2 := [([], []), ([], []), ([], []), ([], []), ([], []), ([], []), ([], []), ([], []), ([], []), ([], []), ([], []), ([], []), ([0, 1], [0]), ([], []), ([0, 1], [0])]) (H2 := [.box (((setAt ((setAt s91.2.2 ((0 : Nat) + (IntKind.wrap .i64 (s91.2.1 - 1)) : Int) ((((k0_.getD ((IntKind.wrap .u32 (((IntKind.wrap .u32 (((Int.tmod (Int.tmod (IntKind.wrap .u32 s91.1) 10000) 100)) * 2))) + 1)) : Int).toNat 0).toNat : Nat) : Int)))) ((0 : Nat) + (IntKind.wrap .i64 (s91.2.1 - 2)) : Int) ((((k0_.getD ((IntKind.wrap .u32 (((Int.tmod (Int.tmod (IntKind.wrap .u32 s91.1) 10000) 100)) * 2)) : Int).toNat 0).toNat : Nat) : Int)))).flatMap (encI .u8))]) (by kernel_rfl) (storeB_ok (encI_len .u8) hm) (fun hc => N.storeB (o := 0) (encI_len .u8) hm) (by kernel_rfl) ?_
    refine kEN ?_
    refine kS ?_
    refine J.keep [0, 4, 12, 14] (L2 := [(0, .sl 0 0 x0.toNat 1), (4, .int .i64 s91.2.1), (12, .int .u32 ((IntKind.wrap .u32 (Int.tdiv (IntKind.wrap .u32 s91.1) 10000)))), (14, .int .u32 ((IntKind.wrap .u32 (((IntKind.wrap .u32 (Int.tdiv (Int.tmod (IntKind.wrap .u32 s91.1) 10000) 100))) * 2))))]) (by kernel_rfl) ?_
    refine K.draw (by kernel_rfl) (by kernel_rfl) (by kernel_rfl) (H2 := [.box (((setAt ((setAt s91.2.2 ((0 : Nat) + (IntKind.wrap .i64 (s91.2.1 - 1)) : Int) ((((k0_.getD ((IntKind.wrap .u32 (((IntKind.wrap .u32 (((Int.tmod (Int.tmod (IntKind.wrap .u32 s91.1) 10000) 100)) * 2))) + 1)) : Int).toNat 0).toNat : Nat) : Int)))) ((0 : Nat) + (IntKind.wrap .i64 (s91.2.1 - 2)) : Int) ((((k0_.getD ((IntKind.wrap .u32 (((Int.tmod (Int.tmod (IntKind.wrap .u32 s91.1) 10000) 100)) * 2)) : Int).toNat 0).toNat : Nat) : Int)))).flatMap (encI .u8))]) (by kernel_rfl) (n := 1) (by kernel_rfl) ?_
    refine kD 8 ?_
    obtain ⟨hm, h215⟩ := asrt h214
    refine kQ 131 (.int .u8 (((k0_.getD ((IntKind.wrap .u32 (((IntKind.wrap .u32 (((IntKind.wrap .u32 (Int.tdiv (Int.tmod (IntKind.wrap .u32 s91.1) 10000) 100))) * 2))) + 1)) : Int).toNat 0).toNat : Nat) : Int)) [] (tr2 := [([], []), ([], []), ([], []), ([], []), ([], []), ([], []), ([], []), ([], []), ([], [])]) hm ?_
    refine RJ.segD 1 (tr2 := [([], []), ([], []), ([], []), ([], []), ([], []), ([], []), ([], []), ([], []), ([], []), ([], [])]) (L2 := [(132, .int .u32 ((IntKind.wrap .u32 (((IntKind.wrap .u32 (Int.tdiv (Int.tmod (IntKind.wrap .u32 s91.1) 10000) 100))) * 2)))), (131, .int .u8 ((((k0_.getD ((IntKind.wrap .u32 (((IntKind.wrap .u32 (((IntKind.wrap .u32 (Int.tdiv (Int.tmod (IntKind.wrap .u32 s91.1) 10000) 100))) * 2))) + 1)) : Int).toNat 0).toNat : Nat) : Int))), (130, .int .u32 ((IntKind.wrap .u32 (((IntKind.wrap .u32 (((IntKind.wrap .u32 (Int.tdiv (Int.tmod (IntKind.wrap .u32 s91.1) 10000) 100))) * 2))) + 1)))), (129, .int .u32 ((IntKind.wrap .u32 (((IntKind.wrap .u32 (Int.tdiv (Int.tmod (IntKind.wrap .u32 s91.1) 10000) 100))) * 2)))), (128, .int .i64 (IntKind.wrap .i64 (s91.2.1 - 4))), (127, .int .i64 s91.2.1), (126, .sl 0 0 x0.toNat 1), (125, .int .i64 (IntKind.wrap .i64 (s91.2.1 - 3))), (124, .int .i64 s91.2.1), (123, .sl 0 0 x0.toNat 1), (0, .sl 0 0 x0.toNat 1), (4, .int .i64 s91.2.1), (12, .int .u32 ((IntKind.wrap .u32 (Int.tdiv (IntKind.wrap .u32 s91.1) 10000)))), (14, .int .u32 ((IntKind.wrap .u32 (((IntKind.wrap .u32 (Int.tdiv (Int.tmod (IntKind.wrap .u32 s91.1) 10000) 100))) * 2))))]) (H2 := [.box (((setAt ((setAt s91.2.2 ((0 : Nat) + (IntKind.wrap .i64 (s91.2.1 - 1)) : Int) ((((k0_.getD ((IntKind.wrap .u32 (((IntKind.wrap .u32 (((Int.tmod (Int.tmod (IntKind.wrap .u32 s91.1) 10000) 100)) * 2))) + 1)) : Int).toNat 0).toNat : Nat) : Int)))) ((0 : Nat) + (IntKind.wrap .i64 (s91.2.1 - 2)) : Int) ((((k0_.getD ((IntKind.wrap .u32 (((Int.tmod (Int.tmod (IntKind.wrap .u32 s91.1) 10000) 100)) * 2)) : Int).toNat 0).toNat : Nat) : Int)))).flatMap (encI .u8))]) (by kernel_rfl) ?_
    obtain ⟨hm, h216⟩ := asrt h215
    refine kQ 133 (.int .u8 (((k0_.getD ((IntKind.wrap .u32 (((IntKind.wrap .u32 (Int.tdiv (Int.tmod (IntKind.wrap .u32 s91.1) 10000) 100))) * 2)) : Int).toNat 0).toNat : Nat) : Int)) [] (tr2 := [([], []), ([], []), ([], []), ([], []), ([], []), ([], []), ([], []), ([], []), ([], []), ([], []), ([], [])]) hm ?_
    obtain ⟨hm, h217⟩ := asrt h216
    refine kQ 134 (.ptr 0 (0 + ((IntKind.wrap .i64 (s91.2.1 - 3)) : Int).toNat * 1)) [] (tr2 := [([], []), ([], []), ([], []), ([], []), ([], []), ([], []), ([], []), ([], []), ([], []), ([], []), ([], []), ([], [])]) hm ?_
    obtain ⟨hm, h218⟩ := asrt h217
    refine RJ.relS (d := none) (ef' := ⟨.undef, [0], [(0, .box ((setAt ((setAt ((setAt s91.2.2 ((0 : Nat) + (IntKind.wrap .i64 (s91.2.1 - 1)) : Int) ((((k0_.getD ((IntKind.wrap .u32 (((IntKind.wrap .u32 (((Int.tmod (Int.tmod (IntKind.wrap .u32 s91.1) 10000) 100)) * 2))) + 1)) : Int).toNat 0).toNat : Nat) : Int)))) ((0 : Nat) + (IntKind.wrap .i64 (s91.2.1 - 2)) : Int) ((((k0_.getD ((IntKind.wrap .u32 (((Int.tmod (Int.tmod (IntKind.wrap .u32 s91.1) 10000) 100)) * 2)) : Int).toNat 0).toNat : Nat) : Int)))) ((0 : Nat) + (IntKind.wrap .i64 (s91.2.1 - 3)) : Int) ((((k0_.getD ((IntKind.wrap .u32 (((IntKind.wrap .u32 (((IntKind.wrap .u32 (Int.tdiv (Int.tmod (IntKind.wrap .u32 s91.1) 10000) 100))) * 2))) + 1)) : Int).toNat 0).toNat : Nat) : Int))).flatMap (encI .u8)))]⟩) (c := Nat.ble (0 * 1 + ((IntKind.wrap .i64 (s91.2.1 - 3)) : Int).toNat * 1 + ((encI .u8) ((((k0_.getD ((IntKind.wrap .u32 (((IntKind.wrap .u32 (((IntKind.wrap .u32 (Int.tdiv (Int.tmod (IntKind.wrap .u32 s91.1) 10000) 100))) * 2))) + 1)) : Int).toNat 0).toNat : Nat) : Int))).length) (((setAt ((setAt s91.2.2 ((0 : Nat) + (IntKind.wrap .i64 (s91.2.1 - 1)) : Int) ((((k0_.getD ((IntKind.wrap .u32 (((IntKind.wrap .u32 (((Int.tmod (Int.tmod (IntKind.wrap .u32 s91.1) 10000) 100)) * 2))) + 1)) : Int).toNat 0).toNat : Nat) : Int)))) ((0 : Nat) + (IntKind.wrap .i64 (s91.2.1 - 2)) : Int) ((((k0_.getD ((IntKind.wrap .u32 (((Int.tmod (Int.tmod (IntKind.wrap .u32 s91.1) 10000) 100)) * 2)) : Int).toNat 0).toNat : Nat) : Int)))).flatMap (encI .u8)).length) (tr2 := [([], []), ([], []), ([], []), ([], []), ([], []), ([], []), ([], []), ([], []), ([], []), ([], []), ([], []), ([], []), ([0, 1], [0])]) (H2 := [.box (((setAt ((setAt ((setAt s91.2.2 ((0 : Nat) + (IntKind.wrap .i64 (s91.2.1 - 1)) : Int) ((((k0_.getD ((IntKind.wrap .u32 (((IntKind.wrap .u32 (((Int.tmod (Int.tmod (IntKind.wrap .u32 s91.1) 10000) 100)) * 2))) + 1)) : Int).toNat 0).toNat : Nat) : Int)))) ((0 : Nat) + (IntKind.wrap .i64 (s91.2.1 - 2)) : Int) ((((k0_.getD ((IntKind.wrap .u32 (((Int.tmod (Int.tmod (IntKind.wrap .u32 s91.1) 10000) 100)) * 2)) : Int).toNat 0).toNat : Nat) : Int)))) ((0 : Nat) + (IntKind.wrap .i64 (s91.2.1 - 3)) : Int) ((((k0_.getD ((IntKind.wrap .u32 (((IntKind.wrap .u32 (((IntKind.wrap .u32 (Int.tdiv (Int.tmod (IntKind.wrap .u32 s91.1) 10000) 100))) * 2))) + 1)) : Int).toNat 0).toNat : Nat) : Int)))).flatMap (encI .u8))]) (by kernel_rfl) (storeB_ok (encI_len .u8) hm) (fun hc => N.storeB (o := 0) (encI_len .u8) hm) (by kernel_rfl) ?_
    obtain ⟨hm, h219⟩ := asrt h218
    refine kQ 135 (.ptr 0 (0 + ((IntKind.wrap .i64 (s91.2.1 - 4)) : Int).toNat * 1)) [] (tr2 := [([], []), ([], []), ([], []), ([], []), ([], []), ([], []), ([], []), ([], []), ([], []), ([], []), ([], []), ([], []), ([0, 1], [0]), ([], [])]) hm ?_
    obtain ⟨hm, h220⟩ := asrt h219
    refine RJ.relS (d := none) (ef' := ⟨.undef, [0], [(0, .box ((setAt ((setAt ((setAt ((setAt s91.2.2 ((0 : Nat) + (IntKind.wrap .i64 (s91.2.1 - 1)) : Int) ((((k0_.getD ((IntKind.wrap .u32 (((IntKind.wrap .u32 (((Int.tmod (Int.tmod (IntKind.wrap .u32 s91.1) 10000) 100)) * 2))) + 1)) : Int).toNat 0).toNat : Nat) : Int)))) ((0 : Nat) + (IntKind.wrap .i64 (s91.2.1 - 2)) : Int) ((((k0_.getD ((IntKind.wrap .u32 (((Int.tmod (Int.tmod (IntKind.wrap .u32 s91.1) 10000) 100)) * 2)) : Int).toNat 0).toNat : Nat) : Int)))) ((0 : Nat) + (IntKind.wrap .i64 (s91.2.1 - 3)) : Int) ((((k0_.getD ((IntKind.wrap .u32 (((IntKind.wrap .u32 (((IntKind.wrap .u32 (Int.tdiv (Int.tmod (IntKind.wrap .u32 s91.1) 10000) 100))) * 2))) + 1)) : Int).toNat 0).toNat : Nat) : Int)))) ((0 : Nat) + (IntKind.wrap .i64 (s91.2.1 - 4)) : Int) ((((k0_.getD ((IntKind.wrap .u32 (((IntKind.wrap .u32 (Int.tdiv (Int.tmod (IntKind.wrap .u32 s91.1) 10000) 100))) * 2)) : Int).toNat 0).toNat : Nat) : Int))).flatMap (encI .u8)))]⟩) (c := Nat.ble (0 * 1 + ((IntKind.wrap .i64 (s91.2.1 - 4)) : Int).toNat * 1 + ((encI .u8) ((((k0_.getD ((IntKind.wrap .u32 (((IntKind.wrap .u32 (Int.tdiv (Int.tmod (IntKind.wrap .u32 s91.1) 10000) 100))) * 2)) : Int).toNat 0).toNat : Nat) : Int))).length) (((setAt ((setAt ((setAt s91.2.2 ((0 : Nat) + (IntKind.wrap .i64 (s91.2.1 - 1)) : Int) ((((k0_.getD ((IntKind.wrap .u32 (((IntKind.wrap .u32 (((Int.tmod (Int.tmod (IntKind.wrap .u32 s91.1) 10000) 100)) * 2))) + 1)) : Int).toNat 0).toNat : Nat) : Int)))) ((0 : Nat) + (IntKind.wrap .i64 (s91.2.1 - 2)) : Int) ((((k0_.getD ((IntKind.wrap .u32 (((Int.tmod (Int.tmod (IntKind.wrap .u32 s91.1) 10000) 100)) * 2)) : Int).toNat 0).toNat : Nat) : Int)))) ((0 : Nat) + (IntKind.wrap .i64 (s91.2.1 - 3)) : Int) ((((k0_.getD ((IntKind.wrap .u32 (((IntKind.wrap .u32 (((IntKind.wrap .u32 (Int.tdiv (Int.tmod (IntKind.wrap .u32 s91.1) 10000) 100))) * 2))) + 1)) : Int).toNat 0).toNat : Nat) : Int)))).flatMap (encI .u8)).length) (tr2 := [([], []), ([], []), ([], []), ([], []), ([], []), ([], []), ([], []), ([], []), ([], []), ([], []), ([], []), ([], []), ([0, 1], [0]), ([], []), ([0, 1], [0])]) (H2 := [.box (((setAt ((setAt ((setAt ((setAt s91.2.2 ((0 : Nat) + (IntKind.wrap .i64 (s91.2.1 - 1)) : Int) ((((k0_.getD ((IntKind.wrap .u32 (((IntKind.wrap .u32 (((Int.tmod (Int.tmod (IntKind.wrap .u32 s91.1) 10000) 100)) * 2))) + 1)) : Int).toNat 0).toNat : Nat) : Int)))) ((0 : Nat) + (IntKind.wrap .i64 (s91.2.1 - 2)) : Int) ((((k0_.getD ((IntKind.wrap .u32 (((Int.tmod (Int.tmod (IntKind.wrap .u32 s91.1) 10000) 100)) * 2)) : Int).toNat 0).toNat : Nat) : Int)))) ((0 : Nat) + (IntKind.wrap .i64 (s91.2.1 - 3)) : Int) ((((k0_.getD ((IntKind.wrap .u32 (((IntKind.wrap .u32 (((IntKind.wrap .u32 (Int.tdiv (Int.tmod (IntKind.wrap .u32 s91.1) 10000) 100))) * 2))) + 1)) : Int).toNat 0).toNat : Nat) : Int)))) ((0 : Nat) + (IntKind.wrap .i64 (s91.2.1 - 4)) : Int) ((((k0_.getD ((IntKind.wrap .u32 (((IntKind.wrap .u32 (Int.tdiv (Int.tmod (IntKind.wrap .u32 s91.1) 10000) 100))) * 2)) : Int).toNat 0).toNat : Nat) : Int)))).flatMap (encI .u8))]) (by kernel_rfl) (storeB_ok (encI_len .u8) hm) (fun hc => N.storeB (o := 0) (encI_len .u8) hm) (by kernel_rfl) ?_
    refine kEN ?_
    refine kR ?_
    refine kC 3 [0,4,12] ?_
    refine kE ?_
    obtain rfl := oi h220
    exact kN [0, 4, 12]
   ·refine kF ?_
    refine kK ?_
    obtain rfl := oi h208
    exact kN [0, 4, 12]
  ·obtain ⟨s230, hy232, h234⟩ := bindS h205
   refine K.cutN (by kernel_rfl) (fun (s230 : Int × Int × (List Int)) => ([(0, .sl 0 0 x0.toNat 1), (4, .int .i64 s230.1), (12, .int .u32 s230.2.1)], [.box (s230.2.2.flatMap (encI .u8))])) s230 ?_ ?_
   ·refine kSR ?_
    refine kC 2 [0,4,12,139] ?_
    refine kEN ?_
    refine kBJ 139 hy232 (fun h236 => ?_) (fun h237 => ?_)
    ·refine kT ?_
     refine kSR ?_
     refine kC 4 [0,4,12,16] ?_
     refine kEN ?_
     refine kSR ?_
     refine kC 3 [0,4,12,16] ?_
     refine kEN ?_
     refine kS ?_
     refine J.keep [0, 4, 12, 16] (L2 := [(0, .sl 0 0 x0.toNat 1), (4, .int .i64 s201.1), (12, .int .u32 (IntKind.wrap .u32 (Int.tdiv s201.2.1 100))), (16, .int .u32 ((IntKind.wrap .u32 ((Int.tmod s201.2.1 100) * 2))))]) (by kernel_rfl) ?_
     refine K.draw (by kernel_rfl) (by kernel_rfl) (by kernel_rfl) (H2 := [.box (s201.2.2.flatMap (encI .u8))]) (by kernel_rfl) (n := 1) (by kernel_rfl) ?_
     refine kD 8 ?_
     obtain ⟨hm, h238⟩ := asrt h236
     refine kQ 153 (.int .u8 (((k0_.getD ((IntKind.wrap .u32 (((IntKind.wrap .u32 ((Int.tmod s201.2.1 100) * 2))) + 1)) : Int).toNat 0).toNat : Nat) : Int)) [] (tr2 := [([], []), ([], []), ([], []), ([], []), ([], []), ([], []), ([], []), ([], []), ([], [])]) hm ?_
     refine kD 1 ?_
     obtain ⟨hm, h239⟩ := asrt h238
     refine kQ 155 (.int .u8 (((k0_.getD ((IntKind.wrap .u32 ((Int.tmod s201.2.1 100) * 2)) : Int).toNat 0).toNat : Nat) : Int)) [] (tr2 := [([], []), ([], []), ([], []), ([], []), ([], []), ([], []), ([], []), ([], []), ([], []), ([], []), ([], [])]) hm ?_
     obtain ⟨hm, h240⟩ := asrt h239
     refine kQ 156 (.ptr 0 (0 + ((IntKind.wrap .i64 (s201.1 - 1)) : Int).toNat * 1)) [] (tr2 := [([], []), ([], []), ([], []), ([], []), ([], []), ([], []), ([], []), ([], []), ([], []), ([], []), ([], []), ([], [])]) hm ?_
     obtain ⟨hm, h241⟩ := asrt h240
     refine RJ.relS (d := none) (ef' := ⟨.undef, [0], [(0, .box ((setAt s201.2.2 ((0 : Nat) + (IntKind.wrap .i64 (s201.1 - 1)) : Int) ((((k0_.getD ((IntKind.wrap .u32 (((IntKind.wrap .u32 ((Int.tmod s201.2.1 100) * 2))) + 1)) : Int).toNat 0).toNat : Nat) : Int))).flatMap (encI .u8)))]⟩) (c := Nat.ble (0 * 1 + ((IntKind.wrap .i64 (s201.1 - 1)) : Int).toNat * 1 + ((encI .u8) ((((k0_.getD ((IntKind.wrap .u32 (((IntKind.wrap .u32 ((Int.tmod s201.2.1 100) * 2))) + 1)) : Int).toNat 0).toNat : Nat) : Int))).length) (s201.2.2.flatMap (encI .u8)).length) (tr2 := [([], []), ([], []), ([], []), ([], []), ([], []), ([], []), ([], []), ([], []), ([], []), ([], []), ([], []), ([], []), ([0, 1], [0])]) (H2 := [.box (((setAt s201.2.2 ((0 : Nat) + (IntKind.wrap .i64 (s201.1 - 1)) : Int) ((((k0_.getD ((IntKind.wrap .u32 (((IntKind.wrap .u32 ((Int.tmod s201.2.1 100) * 2))) + 1)) : Int).toNat 0).toNat : Nat) : Int)))).flatMap (encI .u8))]) (by kernel_rfl) (storeB_ok (encI_len .u8) hm) (fun hc => N.storeB (o := 0) (encI_len .u8) hm) (by kernel_rfl) ?_
     obtain ⟨hm, h242⟩ := asrt h241
     refine kQ 157 (.ptr 0 (0 + ((IntKind.wrap .i64 (s201.1 - 2)) : Int).toNat * 1)) [] (tr2 := [([], []), ([], []), ([], []), ([], []), ([], []), ([], []), ([], []), ([], []), ([], []), ([], []), ([], []), ([], []), ([0, 1], [0]), ([], [])]) hm ?_
     obtain ⟨hm, h243⟩ := asrt h242
     refine RJ.relS (d := none) (ef' := ⟨.undef, [0], [(0, .box ((setAt ((setAt s201.2.2 ((0 : Nat) + (IntKind.wrap .i64 (s201.1 - 1)) : Int) ((((k0_.getD ((IntKind.wrap .u32 (((IntKind.wrap .u32 ((Int.tmod s201.2.1 100) * 2))) + 1)) : Int).toNat 0).toNat : Nat) : Int)))) ((0 : Nat) + (IntKind.wrap .i64 (s201.1 - 2)) : Int) ((((k0_.getD ((IntKind.wrap .u32 ((Int.tmod s201.2.1 100) * 2)) : Int).toNat 0).toNat : Nat) : Int))).flatMap (encI .u8)))]⟩) (c := Nat.ble (0 * 1 + ((IntKind.wrap .i64 (s201.1 - 2)) : Int).toNat * 1 + ((encI .u8) ((((k0_.getD ((IntKind.wrap .u32 ((Int.tmod s201.2.1 100) * 2)) : Int).toNat 0).toNat : Nat) : Int))).length) (((setAt s201.2.2 ((0 : Nat) + (IntKind.wrap .i64 (s201.1 - 1)) : Int) ((((k0_.getD ((IntKind.wrap .u32 (((IntKind.wrap .u32 ((Int.tmod s201.2.1 100) * 2))) + 1)) : Int).toNat 0).toNat : Nat) : Int)))).flatMap (encI .u8)).length) (tr2 := [([], []), ([], []), ([], []), ([], []), ([], []), ([], []), ([], []), ([], []), ([], []), ([], []), ([], []), ([], []), ([0, 1], [0]), ([], []), ([0, 1], [0])]) (H2 := [.box (((setAt ((setAt s201.2.2 ((0 : Nat) + (IntKind.wrap .i64 (s201.1 - 1)) : Int) ((((k0_.getD ((IntKind.wrap .u32 (((IntKind.wrap .u32 ((Int.tmod s201.2.1 100) * 2))) + 1)) : Int).toNat 0).toNat : Nat) : Int)))) ((0 : Nat) + (IntKind.wrap .i64 (s201.1 - 2)) : Int) ((((k0_.getD ((IntKind.wrap .u32 ((Int.tmod s201.2.1 100) * 2)) : Int).toNat 0).toNat : Nat) : Int)))).flatMap (encI .u8))]) (by kernel_rfl) (storeB_ok (encI_len .u8) hm) (fun hc => N.storeB (o := 0) (encI_len .u8) hm) (by kernel_rfl) ?_
     refine kEN ?_
     refine kR ?_
     refine kC 3 [0,4,12] ?_
     refine kE ?_
     obtain rfl := oi h243
     exact kN [0, 4, 12]
    ·refine kF ?_
     refine kK ?_
     obtain rfl := oi h237
     exact kN [0, 4, 12]
   ·refine kSR ?_
    refine kC 2 [0,12,161] ?_
    refine kEN ?_
    refine kBJ 161 h234 (fun h245 => ?_) (fun h246 => ?_)
    ·refine kT ?_
     refine kR ?_
     refine kC 4 [162,165] ?_
     obtain ⟨hm, h247⟩ := asrt h245
     refine kQ 166 (.ptr 0 (0 + (0 : Int).toNat * 1)) [] (tr2 := []) hm ?_
     obtain ⟨hm, h248⟩ := asrt h247
     refine RJ.relS (d := none) (ef' := ⟨.undef, [0], [(0, .box ((setAt s230.2.2 ((0 : Nat) + 0 : Int) ((IntKind.wrap .u8 (IntKind.wrap .u32 (48 + s230.2.1))))).flatMap (encI .u8)))]⟩) (c := Nat.ble (0 * 1 + (0 : Int).toNat * 1 + ((encI .u8) ((IntKind.wrap .u8 (IntKind.wrap .u32 (48 + s230.2.1))))).length) (s230.2.2.flatMap (encI .u8)).length) (tr2 := []) (H2 := [.box (((setAt s230.2.2 ((0 : Nat) + 0 : Int) ((IntKind.wrap .u8 (IntKind.wrap .u32 (48 + s230.2.1)))))).flatMap (encI .u8))]) (by kernel_rfl) (storeB_ok (encI_len .u8) hm) (fun hc => N.storeB (o := 0) (encI_len .u8) hm) (by kernel_rfl) ?_
     refine kE ?_
     obtain rfl := oi h248
     exact K.retV (H0 := [.box (x2.flatMap (encI .u8))]) [0] (.inl rfl) hFn hFH hFD (by kernel_rfl) (v1 := .tup []) (by kernel_rfl) (by kernel_rfl) (by simp only [List.map_cons, List.map_nil, rn_lbox (enc := (encI .u8)) (fun _ _ => rfl)]; kernel_rfl) (by decide) (by simp only [List.all_cons, List.all_nil, refs_lbox (enc := (encI .u8)) (fun _ _ => rfl)]; kernel_rfl) (by kernel_rfl) (by kernel_rfl) (by kernel_rfl) (by kernel_rfl)
    ·refine kF ?_
     refine kK ?_
     obtain rfl := oi h246
     exact K.retV (H0 := [.box (x2.flatMap (encI .u8))]) [0] (.inl rfl) hFn hFH hFD (by kernel_rfl) (v1 := .tup []) (by kernel_rfl) (by kernel_rfl) (by simp only [List.map_cons, List.map_nil, rn_lbox (enc := (encI .u8)) (fun _ _ => rfl)]; kernel_rfl) (by decide) (by simp only [List.all_cons, List.all_nil, refs_lbox (enc := (encI .u8)) (fun _ _ => rfl)]; kernel_rfl) (by kernel_rfl) (by kernel_rfl) (by kernel_rfl) (by kernel_rfl)
def strconv_AppendUint (x0 : List Int) (x1 : Int) (x2 : Int) : Option (List Int) :=
 (bif (decide (x2 = 10)) then (bif (decide (x1 < 100)) then (Option.bind (strconv_small (IntKind.wrap .i64 x1)) fun y7 => (bif room (x0.length + y7.length) then (some (x0 ++ (bytesI y7))) else none)) else (Option.bind (strconv_numDigits x1) fun y11 => (bif inS 0 y11 24 then (Option.bind (strconv_formatBase10_s0 (y11 : Int) x1 (rep 24 (0 : Int))) fun y15 => (bif inS 0 y11 24 then (bif (inS ((0 : Nat) : Int) (((0 : Nat) : Int) + (y11 : Int)) y15.length && roomB (x0.length + (y11 : Int).toNat)) then (some (x0 ++ (cut y15 ((0 : Nat) : Int) (((0 : Nat) : Int) + (y11 : Int))))) else none) else none)) else none))) else none)
theorem strconv_AppendUint_ok_0o {x0 : List Int} {x1 : Int} {x2 : Int} {r : List Int} (h : strconv_AppendUint x0 x1 x2 = some r) : SC Tryd.prog 80 [.vc 0, .int .u64 x1, .int .i64 x2] [vecL (encI .u8) 1 5 x0] (.vc 1) [.gone, vecL (encI .u8) 1 5 r] := by
 refine kFn (fn := Tryd.f80) (fun F hFn hFH hFD => ?_)
 unfold strconv_AppendUint at h
 refine kSR ?_
 refine kC 1 [0,1,2,6] ?_
 refine kEN ?_
 refine kS ?_
 refine kSR ?_
 refine kC 2 [0,1,2,6,10] ?_
 refine kEN ?_
 refine kBJ 10 h (fun h2 => ?_) (fun h3 => ?_)
 ·refine kT ?_
  refine kS ?_
  refine kSR ?_
  refine kC 2 [0,1,2,6,12] ?_
  refine kEN ?_
  refine kBJ 12 h2 (fun h5 => ?_) (fun h6 => ?_)
  ·refine kT ?_
   refine kSR ?_
   refine kC 3 [0,1,2,6,13,15] ?_
   obtain ⟨y7, hy8, h9⟩ := bindS h5
   refine kA 16 (strconv_small_ok hy8) ?_
   obtain ⟨hm, h10⟩ := asrt h9
   refine RJ.rel (d := (some 17)) (ef := ⟨.vc 1, [0], [(0, .gone), (1, .vec (x0.length + y7.length) 1 5 (x0.flatMap (encI .u8) ++ y7.map byteSV))]⟩) (ef' := ⟨.vc 1, [0], [(0, .gone), (1, vecL (encI .u8) 1 5 (x0 ++ (bytesI y7)))]⟩) (c := roomB (x0.length + y7.length)) (tr2 := []) (H2 := [.gone, vecL (encI .u8) 1 5 (x0 ++ (bytesI y7))]) (by kernel_rfl) (roomB_of_room hm) (fun hc => (by rw [bytes_eq, ← bytesI_len y7]; exact N.app)) (by kernel_rfl) ?_
   refine kC 1 [0,1,2,6] ?_
   refine kEN ?_
   refine kX ?_
   refine PJ.passRet ?_
   refine PJ.passRet ?_
   obtain rfl := oi h10
   exact kV [0, 1] hFn hFH hFD (v1 := .vc 1)
  ·refine kF ?_
   refine kK ?_
   refine PJ.next ?_
   refine kSR ?_
   refine kC 1 [0,1,2,6,7] ?_
   refine kEN ?_
   refine kSR ?_
   refine kC 1 [0,1,2,6,7,18] ?_
   obtain ⟨y11, hy12, h13⟩ := bindS h6
   refine kA 19 (strconv_numDigits_ok hy12) ?_
   refine kC 1 [0,1,2,6,7,8] ?_
   refine kEN ?_
   refine kSR ?_
   refine kC 1 [0,1,2,6,7,8,20] ?_
   obtain ⟨hm, h14⟩ := asrt h13
   refine RJ.relS (d := (some 21)) (ef' := ⟨.sl 1 0 (y11 : Int).toNat 1, [], []⟩) (tr2 := []) (H2 := [vecL (encI .u8) 1 5 x0, .box ((rep 24 (0 : Int)).flatMap (encI .u8))]) (by kernel_rfl) hm (fun hc => rfl) (by kernel_rfl) ?_
   refine kC 1 [0,1,2,6,7,8,21,22] ?_
   obtain ⟨y15, hy16, h17⟩ := bindS h14
   refine RJ.callG (d := (some 23)) (f := 95) (args := [.sl 1 0 (y11 : Int).toNat 1, .int .u64 x1]) (args0 := [.sl 0 0 (y11 : Int).toNat 1, .int .u64 x1]) (v0 := .tup []) (v := .tup []) (tr2 := []) (H0 := [.box ((rep 24 (0 : Int)).flatMap (encI .u8))]) (H0' := [.box (y15.flatMap (encI .u8))]) (H2 := [vecL (encI .u8) 1 5 x0, .box (y15.flatMap (encI .u8))]) [1] (by kernel_rfl) (by kernel_rfl) (by kernel_rfl) (by simp only [List.map_cons, List.map_nil, rn_lbox (enc := (encI .u8)) (fun _ _ => rfl)]; kernel_rfl) (by decide) (by simp only [List.all_cons, List.all_nil, refs_lbox (enc := (encI .u8)) (fun _ _ => rfl)]; kernel_rfl) (by kernel_rfl) (by kernel_rfl) (.cons (Le.refl _) (.cons (Le.refl _) .nil)) (strconv_formatBase10_s0_ok hy16) (by kernel_rfl) (by kernel_rfl) ((show frameH (selF [1]) 1 _ [.box (y15.flatMap (encI .u8))] = [vecL (encI .u8) 1 5 x0, Ent.rn (gOf (selF [1]) 1 2) (.box (y15.flatMap (encI .u8)))] by kernel_rfl).trans (by simp only [rn_lbox (enc := (encI .u8)) (fun _ _ => rfl)])) ?_
   refine kEN ?_
   refine kSR ?_
   refine RJ.seg 2 [0, 1, 2, 6, 7, 24, 25] (L2 := [(0, .vc 0), (1, .int .u64 x1), (2, .int .i64 x2), (6, .nl), (7, .ptr 1 0), (24, .vc 0), (25, .int .i64 y11)]) (H2 := [vecL (encI .u8) 1 5 x0, .box (y15.flatMap (encI .u8))]) (by kernel_rfl) ?_
   obtain ⟨hm, h18⟩ := asrt h17
   refine RJ.relS (d := (some 26)) (ef' := ⟨.sl 1 0 (y11 : Int).toNat 1, [], []⟩) (tr2 := []) (H2 := [vecL (encI .u8) 1 5 x0, .box (y15.flatMap (encI .u8))]) (by kernel_rfl) hm (fun hc => rfl) (by kernel_rfl) ?_
   obtain ⟨hm, h19⟩ := asrt h18
   refine RJ.relS (d := (some 27)) (ef := ⟨.vc 2, [0, 1], [(0, .gone), (2, .vec (x0.length + (y11 : Int).toNat) 1 5 (x0.flatMap (encI .u8) ++ ((y15.flatMap (encI .u8)).drop (0 * 1)).take ((y11 : Int).toNat * 1)))]⟩) (ef' := ⟨.vc 2, [0, 1], [(0, .gone), (2, vecL (encI .u8) 1 5 (x0 ++ (cut y15 ((0 : Nat) : Int) (((0 : Nat) : Int) + (y11 : Int)))))]⟩) (c := (Nat.ble (0 * 1 + (y11 : Int).toNat * 1) (y15.flatMap (encI .u8)).length && (plainL (((y15.flatMap (encI .u8)).drop (0 * 1)).take ((y11 : Int).toNat * 1)) && roomB (x0.length + (y11 : Int).toNat)))) (tr2 := []) (H2 := [.gone, .box (y15.flatMap (encI .u8)), vecL (encI .u8) 1 5 ((x0 ++ (cut y15 ((0 : Nat) : Int) (((0 : Nat) : Int) + (y11 : Int)))))]) (by kernel_rfl) (appB_ok (o := 0) (encI_len .u8) (fun _ => rfl) (Bool.and_eq_true_iff.1 hm).1 (Bool.and_eq_true_iff.1 hm).2) (fun hc => N.appB (o := 0) (encI_len .u8) (Bool.and_eq_true_iff.1 hm).1) (by kernel_rfl) ?_
   refine kC 1 [0,1,2,6] ?_
   refine kEN ?_
   refine kX ?_
   refine PJ.passRet ?_
   obtain rfl := oi h19
   exact kV [0, 2] hFn hFH hFD (v1 := .vc 2)
 ·refine kF ?_
  refine kK ?_
  refine PJ.next ?_
  refine kSR ?_
  refine kC 3 [0,6,29,30,31] ?_
  cases h3
def strconv_AppendInt_68 (x0 : List Int) (x1 : Int) (x2 : Int) : Option (List Int) :=
 (Option.bind (bif (decide (x1 < 0)) then (bif room (x0.length + ([45] : List Int).length) then (some ((IntKind.wrap .u64 (0 - (IntKind.wrap .u64 x1))), (x0 ++ ([45] : List Int)))) else none) else (some ((IntKind.wrap .u64 x1), x0))) fun (s5 : Int × (List Int)) => (Option.bind (strconv_AppendUint s5.2 s5.1 x2) fun y14 => (some y14)))
theorem strconv_AppendInt_68_ok_0o {x0 : List Int} {x1 : Int} {x2 : Int} {r : List Int} (h : strconv_AppendInt_68 x0 x1 x2 = some r) : SC Tryd.prog 68 [.vc 0, .int .i64 x1, .int .i64 x2] [vecL (encI .u8) 1 5 x0] (.vc 1) [.gone, vecL (encI .u8) 1 5 r] := by
 refine kFn (fn := Tryd.f68) (fun F hFn hFH hFD => ?_)
 unfold strconv_AppendInt_68 at h
 refine J.wk (Wk.move 0 (n := x0.length) (k := 1) (e := 5) (cs := x0.flatMap (encI .u8)) (by kernel_rfl)) ?_
 refine kSR ?_
 refine kC 1 [0,1,2,6] ?_
 refine kEN ?_
 refine kSR ?_
 refine kC 3 [0,1,2,6,7] ?_
 refine kEN ?_
 obtain ⟨s5, hy7, h9⟩ := bindS h
 refine K.cutN (by kernel_rfl) (fun (s5 : Int × (List Int)) => ([(0, .vc 1), (2, .int .i64 x2), (6, .nl), (7, .int .u64 s5.1)], [.gone, vecL (encI .u8) 1 5 s5.2])) s5 ?_ ?_
 ·refine kSR ?_
  refine kC 2 [0,2,6,7,11] ?_
  refine kEN ?_
  refine kBJ 11 hy7 (fun h11 => ?_) (fun h12 => ?_)
  ·refine kT ?_
   refine kSR ?_
   refine kC 2 [0,2,6,7,12,13] ?_
   obtain ⟨hm, h13⟩ := asrt h11
   refine RJ.rel (d := (some 14)) (ef := ⟨.vc 3, [1, 2], [(1, .gone), (3, .vec (x0.length + ([45] : List Int).length) 1 5 (x0.flatMap (encI .u8) ++ ([45] : List Int).flatMap (encI .u8)))]⟩) (ef' := ⟨.vc 3, [1, 2], [(1, .gone), (3, vecL (encI .u8) 1 5 (x0 ++ ([45] : List Int)))]⟩) (c := roomB (x0.length + ([45] : List Int).length)) (tr2 := []) (H2 := [.gone, .gone, vecL (encI .u8) 1 5 ([45] : List Int), vecL (encI .u8) 1 5 (x0 ++ ([45] : List Int))]) (by kernel_rfl) (roomB_of_room hm) (fun hc => N.app) (by kernel_rfl) ?_
   refine kC 1 [0,2,6,7] ?_
   refine kEN ?_
   refine kR ?_
   refine kC 3 [0,2,6,7] ?_
   refine kE ?_
   obtain rfl := oi h13
   refine kW (L2 := [(0, .vc 1), (2, .int .i64 x2), (6, .nl), (7, .int .u64 ((IntKind.wrap .u64 (0 - (IntKind.wrap .u64 x1)))))]) (H2 := [.gone, vecL (encI .u8) 1 5 (x0 ++ ([45] : List Int))]) hFH hFD [0, 3] ?_
   exact kN [0, 2, 6, 7]
  ·refine kF ?_
   refine kK ?_
   obtain rfl := oi h12
   exact kN [0, 2, 6, 7]
 ·refine kSR ?_
  refine kC 3 [6,17,18,19] ?_
  obtain ⟨y14, hy15, h16⟩ := bindS h9
  refine kCG (some 20) (args := [.vc 1, .int .u64 s5.1, .int .i64 x2]) (v := .vc 2) (H2 := [.gone, .gone, vecL (encI .u8) 1 5 y14]) [1] (strconv_AppendUint_ok_0o hy15) ?_
  refine kC 1 [6] ?_
  refine kEN ?_
  refine kX ?_
  obtain rfl := oi h16
  exact kV [0, 2] hFn hFH hFD (v1 := .vc 2)
def strconv_AppendInt (x0 : List Int) (x1 : Int) (x2 : Int) : Option (List Int) :=
 (Option.bind (strconv_AppendInt_68 x0 x1 x2) fun y1 => (some y1))
theorem strconv_AppendInt_ok_0o {x0 : List Int} {x1 : Int} {x2 : Int} {r : List Int} (h : strconv_AppendInt x0 x1 x2 = some r) : SC Tryd.prog 56 [.vc 0, .int .i64 x1, .int .i64 x2] [vecL (encI .u8) 1 5 x0] (.vc 1) [.gone, vecL (encI .u8) 1 5 r] := by
 refine kFn (fn := Tryd.f56) (fun F hFn hFH hFD => ?_)
 unfold strconv_AppendInt at h
 refine kSR ?_
 refine kC 1 [0,1,2,6] ?_
 refine kEN ?_
 refine kSR ?_
 refine kC 3 [6,7,8,9] ?_
 obtain ⟨y1, hy2, h3⟩ := bindS h
 refine kCG (some 10) (args := [.vc 0, .int .i64 x1, .int .i64 x2]) (v := .vc 1) (H2 := [.gone, vecL (encI .u8) 1 5 y1]) [0] (strconv_AppendInt_68_ok_0o hy2) ?_
 refine kC 1 [6] ?_
 refine kEN ?_
 refine kX ?_
 obtain rfl := oi h3
 exact kV [0, 1] hFn hFH hFD (v1 := .vc 1)
def rule_relation (x0 : List Int) (x1 : St71) : Option (List Int) :=
 (bif room (x0.length + ([x1.Op_] : List Int).length) then (Option.bind (bif (decide (¬ x1.Mod_ = 0)) then (bif room ((x0 ++ ([x1.Op_] : List Int)).length + ([32, 37, 32] : List UInt8).length) then (Option.bind (strconv_AppendInt (((x0 ++ ([x1.Op_] : List Int)) ++ (bytesI ([32, 37, 32] : List UInt8)))) x1.Mod_ 10) fun y18 => (some y18)) else none) else (some (x0 ++ ([x1.Op_] : List Int)))) fun (s9 : (List Int)) => (Option.bind (bif x1.Not_ then (bif room (s9.length + ([32, 33, 61, 32] : List UInt8).length) then (some ((s9 ++ (bytesI ([32, 33, 61, 32] : List UInt8))))) else none) else (bif room (s9.length + ([32, 61, 32] : List UInt8).length) then (some ((s9 ++ (bytesI ([32, 61, 32] : List UInt8))))) else none)) fun (s26 : (List Int)) => (Option.bind (loopN (fun (s218 : Int × (List Int)) => (bif (decide (s218.1 < (x1.R_.length : Int))) then (Option.bind (bif inR s218.1 x1.R_.length then (Option.bind (bif (decide (s218.1 > 0)) then (bif room (s218.2.length + ([44] : List Int).length) then (some (s218.2 ++ ([44] : List Int))) else none) else (some s218.2)) fun (s374 : (List Int)) => (Option.bind (strconv_AppendInt s374 ((nth x1.R_ s218.1).a0_) 10) fun y383 => (bif (decide (¬ ((nth x1.R_ s218.1).a0_) = ((nth x1.R_ s218.1).a1_))) then (bif room (y383.length + ([46, 46] : List UInt8).length) then (Option.bind (strconv_AppendInt ((y383 ++ (bytesI ([46, 46] : List UInt8)))) ((nth x1.R_ s218.1).a1_) 10) fun y390 => (some y390)) else none) else (some y383)))) else none) fun (s364 : (List Int)) => (some (.inl ((IntKind.wrap .i64 (s218.1 + 1)), s364)))) else (some (.inr s218.2)))) big (0, s26)) fun (s213 : (List Int)) => (some s213)))) else none)
theorem rule_relation_ok_0o {x0 : List Int} {x1 : St71} {r : List Int} (h : rule_relation x0 x1 = some r) : SC Tryd.prog 43 [.vc 0, .agg (encSt71 x1)] [vecL (encI .u8) 1 5 x0] (.vc 1) [.gone, vecL (encI .u8) 1 5 r] := by
 refine kFn (fn := Tryd.f43) (fun F hFn hFH hFD => ?_)
 unfold rule_relation at h
 refine kSR ?_
 refine kC 2 [0,3,4] ?_
 refine kEN ?_
 refine kSR ?_
 refine kC 4 [0,3,4,7,10] ?_
 obtain ⟨hm, h1⟩ := asrt h
 refine RJ.rel (d := (some 11)) (ef := ⟨.vc 3, [0, 2], [(0, .gone), (3, .vec (x0.length + ([x1.Op_] : List Int).length) 1 5 (x0.flatMap (encI .u8) ++ ([x1.Op_] : List Int).flatMap (encI .u8)))]⟩) (ef' := ⟨.vc 3, [0, 2], [(0, .gone), (3, vecL (encI .u8) 1 5 (x0 ++ ([x1.Op_] : List Int)))]⟩) (c := roomB (x0.length + ([x1.Op_] : List Int).length)) (tr2 := []) (H2 := [.gone, .box (encSt71 x1), vecL (encI .u8) 1 5 ([x1.Op_] : List Int), vecL (encI .u8) 1 5 (x0 ++ ([x1.Op_] : List Int))]) (by kernel_rfl) (roomB_of_room hm) (fun hc => N.app) (by kernel_rfl) ?_
 refine kC 1 [0,3,4] ?_
 refine kEN ?_
 obtain ⟨s9, hy11, h13⟩ := bindS h1
 refine K.cutN (by kernel_rfl) (fun (s9 : (List Int)) => ([(0, .vc 1), (3, .ptr 2 0), (4, .nl)], [.gone, vecL (encI .u8) 1 5 s9, .box (encSt71 x1)])) s9 ?_ ?_
 ·refine kSR ?_
  refine kC 3 [0,3,4,14] ?_
  refine kEN ?_
  refine kBJ 14 hy11 (fun h15 => ?_) (fun h16 => ?_)
  ·refine kT ?_
   refine kSR ?_
   refine kC 1 [0,3,4,15] ?_
   obtain ⟨hm, h17⟩ := asrt h15
   refine RJ.rel (d := (some 16)) (ef := ⟨.vc 4, [3], [(3, .gone), (4, .vec ((x0 ++ ([x1.Op_] : List Int)).length + ([32, 37, 32] : List UInt8).length) 1 5 ((x0 ++ ([x1.Op_] : List Int)).flatMap (encI .u8) ++ ([32, 37, 32] : List UInt8).map byteSV))]⟩) (ef' := ⟨.vc 4, [3], [(3, .gone), (4, vecL (encI .u8) 1 5 ((x0 ++ ([x1.Op_] : List Int)) ++ (bytesI ([32, 37, 32] : List UInt8))))]⟩) (c := roomB ((x0 ++ ([x1.Op_] : List Int)).length + ([32, 37, 32] : List UInt8).length)) (tr2 := []) (H2 := [.gone, .box (encSt71 x1), vecL (encI .u8) 1 5 ([x1.Op_] : List Int), .gone, vecL (encI .u8) 1 5 (((x0 ++ ([x1.Op_] : List Int)) ++ (bytesI ([32, 37, 32] : List UInt8))))]) (by kernel_rfl) (roomB_of_room hm) (fun hc => (by rw [bytes_eq, ← bytesI_len ([32, 37, 32] : List UInt8)]; exact N.app)) (by kernel_rfl) ?_
   refine kC 1 [0,3,4] ?_
   refine kEN ?_
   refine kR ?_
   refine kC 3 [0,3,4,17,19] ?_
   obtain ⟨y18, hy19, h20⟩ := bindS h17
   refine kCG (some 20) (args := [.vc 4, .int .i64 x1.Mod_, .int .i64 10]) (v := .vc 5) (H2 := [.gone, .box (encSt71 x1), vecL (encI .u8) 1 5 ([x1.Op_] : List Int), .gone, .gone, vecL (encI .u8) 1 5 y18]) [4] (strconv_AppendInt_ok_0o hy19) ?_
   refine kC 1 [0,3,4] ?_
   refine kE ?_
   obtain rfl := oi h20
   refine kW (L2 := [(0, .vc 1), (3, .ptr 2 0), (4, .nl)]) (H2 := [.gone, vecL (encI .u8) 1 5 y18, .box (encSt71 x1)]) hFH hFD [0, 5, 1] ?_
   exact kN [0, 3, 4]
  ·refine kF ?_
   refine kK ?_
   obtain rfl := oi h16
   refine kW (L2 := [(0, .vc 1), (3, .ptr 2 0), (4, .nl)]) (H2 := [.gone, vecL (encI .u8) 1 5 (x0 ++ ([x1.Op_] : List Int)), .box (encSt71 x1)]) hFH hFD [0, 3, 1] ?_
   exact kN [0, 3, 4]
 ·obtain ⟨s26, hy28, h30⟩ := bindS h13
  refine K.cutN (by kernel_rfl) (fun (s26 : (List Int)) => ([(0, .vc 1), (3, .ptr 2 0), (4, .nl)], [.gone, vecL (encI .u8) 1 5 s26, .box (encSt71 x1)])) s26 ?_ ?_
  ·refine kSR ?_
   refine kC 2 [0,3,4,22] ?_
   refine kEN ?_
   refine kBJ 22 hy28 (fun h32 => ?_) (fun h33 => ?_)
   ·refine kT ?_
    refine kR ?_
    refine kC 1 [0,3,4,23] ?_
    obtain ⟨hm, h34⟩ := asrt h32
    refine RJ.rel (d := (some 24)) (ef := ⟨.vc 3, [1], [(1, .gone), (3, .vec (s9.length + ([32, 33, 61, 32] : List UInt8).length) 1 5 (s9.flatMap (encI .u8) ++ ([32, 33, 61, 32] : List UInt8).map byteSV))]⟩) (ef' := ⟨.vc 3, [1], [(1, .gone), (3, vecL (encI .u8) 1 5 (s9 ++ (bytesI ([32, 33, 61, 32] : List UInt8))))]⟩) (c := roomB (s9.length + ([32, 33, 61, 32] : List UInt8).length)) (tr2 := []) (H2 := [.gone, .gone, .box (encSt71 x1), vecL (encI .u8) 1 5 ((s9 ++ (bytesI ([32, 33, 61, 32] : List UInt8))))]) (by kernel_rfl) (roomB_of_room hm) (fun hc => (by rw [bytes_eq, ← bytesI_len ([32, 33, 61, 32] : List UInt8)]; exact N.app)) (by kernel_rfl) ?_
    refine kC 1 [0,3,4] ?_
    refine kE ?_
    obtain rfl := oi h34
    refine kW (L2 := [(0, .vc 1), (3, .ptr 2 0), (4, .nl)]) (H2 := [.gone, vecL (encI .u8) 1 5 ((s9 ++ (bytesI ([32, 33, 61, 32] : List UInt8)))), .box (encSt71 x1)]) hFH hFD [0, 3, 2] ?_
    exact kN [0, 3, 4]
   ·refine kF ?_
    refine kR ?_
    refine kC 1 [0,3,4,25] ?_
    obtain ⟨hm, h35⟩ := asrt h33
    refine RJ.rel (d := (some 26)) (ef := ⟨.vc 3, [1], [(1, .gone), (3, .vec (s9.length + ([32, 61, 32] : List UInt8).length) 1 5 (s9.flatMap (encI .u8) ++ ([32, 61, 32] : List UInt8).map byteSV))]⟩) (ef' := ⟨.vc 3, [1], [(1, .gone), (3, vecL (encI .u8) 1 5 (s9 ++ (bytesI ([32, 61, 32] : List UInt8))))]⟩) (c := roomB (s9.length + ([32, 61, 32] : List UInt8).length)) (tr2 := []) (H2 := [.gone, .gone, .box (encSt71 x1), vecL (encI .u8) 1 5 ((s9 ++ (bytesI ([32, 61, 32] : List UInt8))))]) (by kernel_rfl) (roomB_of_room hm) (fun hc => (by rw [bytes_eq, ← bytesI_len ([32, 61, 32] : List UInt8)]; exact N.app)) (by kernel_rfl) ?_
    refine kC 1 [0,3,4] ?_
    refine kE ?_
    obtain rfl := oi h35
    refine kW (L2 := [(0, .vc 1), (3, .ptr 2 0), (4, .nl)]) (H2 := [.gone, vecL (encI .u8) 1 5 ((s9 ++ (bytesI ([32, 61, 32] : List UInt8)))), .box (encSt71 x1)]) hFH hFD [0, 3, 2] ?_
    exact kN [0, 3, 4]
  ·obtain ⟨s213, hy215, h217⟩ := bindS h30
   refine K.cutN (by kernel_rfl) (fun (s213 : (List Int)) => ([(0, .vc 1), (4, .nl)], [.gone, vecL (encI .u8) 1 5 s213])) s213 ?_ ?_
   ·refine kSR ?_
    refine kC 4 [0,4,28,29,30] ?_
    refine kEN ?_
    refine kb 0 ?_
    refine J.wk (Wk.sel (L2 := [(0, .vc 1), (4, .nl), (28, lsv encSt73 2 x1.R_), (29, .int .i64 (x1.R_.length : Int)), (30, .int .i64 0)]) (H2 := [.gone, vecL (encI .u8) 1 5 s26]) 1 (by rw [hFH]; rfl) hFD [0, 1] (by kernel_rfl) (by kernel_rfl) (by decide) (by kernel_rfl) (by kernel_rfl) (by kernel_rfl) (by kernel_rfl)) ?_
    refine kl (fun (s218 : Int × (List Int)) => ([(0, .vc 1), (4, .nl), (28, lsv encSt73 2 x1.R_), (29, .int .i64 (x1.R_.length : Int)), (30, .int .i64 s218.1)], [.gone, vecL (encI .u8) 1 5 s218.2])) hy215 [0, 4, 28, 29, 30] (fun s218 x336 hs335 => ?_)
    refine kSR ?_
    refine kC 1 [0,4,28,29,30,31] ?_
    refine kEN ?_
    refine kS ?_
    refine kBJ 31 hs335 (fun h338 => ?_) (fun h339 => ?_)
    ·refine kT ?_
     refine kK ?_
     refine PJ.next ?_
     obtain ⟨s364, hy366, h368⟩ := bindS h338
     refine K.cutN (by kernel_rfl) (fun (s364 : (List Int)) => ([(0, .vc 1), (4, .nl), (28, lsv encSt73 2 x1.R_), (29, .int .i64 (x1.R_.length : Int)), (30, .int .i64 s218.1)], [.gone, vecL (encI .u8) 1 5 s364])) s364 ?_ ?_
     ·refine kb 1 ?_
      refine kSR ?_
      refine kC 1 [0,4,28,29,30,32] ?_
      obtain ⟨hm, h369⟩ := asrt hy366
      refine kI 33 encSt73_len hm ?_
      refine kC 4 [0,4,5,6,28,29,30] ?_
      refine kEN ?_
      obtain ⟨s374, hy376, h378⟩ := bindS h369
      refine K.cutN (by kernel_rfl) (fun (s374 : (List Int)) => ([(0, .vc 1), (4, .nl), (6, .ptr 2 0), (28, lsv encSt73 2 x1.R_), (29, .int .i64 (x1.R_.length : Int)), (30, .int .i64 s218.1)], [.gone, vecL (encI .u8) 1 5 s374, .box [.int .i64 ((nth x1.R_ s218.1).a0_), .int .i64 ((nth x1.R_ s218.1).a1_)]])) s374 ?_ ?_
      ·refine kSR ?_
       refine kC 2 [0,4,6,28,29,30,36] ?_
       refine kEN ?_
       refine kBJ 36 hy376 (fun h380 => ?_) (fun h381 => ?_)
       ·refine kT ?_
        refine kR ?_
        refine kC 2 [0,4,6,28,29,30,37,38] ?_
        obtain ⟨hm, h382⟩ := asrt h380
        refine RJ.rel (d := (some 39)) (ef := ⟨.vc 4, [1, 3], [(1, .gone), (4, .vec (s218.2.length + ([44] : List Int).length) 1 5 (s218.2.flatMap (encI .u8) ++ ([44] : List Int).flatMap (encI .u8)))]⟩) (ef' := ⟨.vc 4, [1, 3], [(1, .gone), (4, vecL (encI .u8) 1 5 (s218.2 ++ ([44] : List Int)))]⟩) (c := roomB (s218.2.length + ([44] : List Int).length)) (tr2 := []) (H2 := [.gone, .gone, .box [.int .i64 ((nth x1.R_ s218.1).a0_), .int .i64 ((nth x1.R_ s218.1).a1_)], vecL (encI .u8) 1 5 ([44] : List Int), vecL (encI .u8) 1 5 (s218.2 ++ ([44] : List Int))]) (by kernel_rfl) (roomB_of_room hm) (fun hc => N.app) (by kernel_rfl) ?_
        refine kC 1 [0,4,6,28,29,30] ?_
        refine kE ?_
        obtain rfl := oi h382
        refine kW (L2 := [(0, .vc 1), (4, .nl), (6, .ptr 2 0), (28, lsv encSt73 2 x1.R_), (29, .int .i64 (x1.R_.length : Int)), (30, .int .i64 s218.1)]) (H2 := [.gone, vecL (encI .u8) 1 5 (s218.2 ++ ([44] : List Int)), .box [.int .i64 ((nth x1.R_ s218.1).a0_), .int .i64 ((nth x1.R_ s218.1).a1_)]]) hFH hFD [0, 4, 2] ?_
        exact kN [0, 4, 6, 28, 29, 30]
       ·refine kF ?_
        refine kK ?_
        obtain rfl := oi h381
        exact kN [0, 4, 6, 28, 29, 30]
      ·refine kSR ?_
       refine kC 3 [0,4,6,28,29,30,40,42] ?_
       obtain ⟨y383, hy384, h385⟩ := bindS h378
       refine kCG (some 43) (args := [.vc 1, .int .i64 ((nth x1.R_ s218.1).a0_), .int .i64 10]) (v := .vc 3) (H2 := [.gone, .gone, .box [.int .i64 ((nth x1.R_ s218.1).a0_), .int .i64 ((nth x1.R_ s218.1).a1_)], vecL (encI .u8) 1 5 y383]) [1] (strconv_AppendInt_ok_0o hy384) ?_
       refine kC 1 [0,4,6,28,29,30] ?_
       refine kEN ?_
       refine kSR ?_
       refine kC 5 [0,4,6,28,29,30,48] ?_
       refine kEN ?_
       refine kBJ 48 h385 (fun h387 => ?_) (fun h388 => ?_)
       ·refine kT ?_
        refine kSR ?_
        refine kC 1 [0,4,6,28,29,30,49] ?_
        obtain ⟨hm, h389⟩ := asrt h387
        refine RJ.rel (d := (some 50)) (ef := ⟨.vc 4, [3], [(3, .gone), (4, .vec (y383.length + ([46, 46] : List UInt8).length) 1 5 (y383.flatMap (encI .u8) ++ ([46, 46] : List UInt8).map byteSV))]⟩) (ef' := ⟨.vc 4, [3], [(3, .gone), (4, vecL (encI .u8) 1 5 (y383 ++ (bytesI ([46, 46] : List UInt8))))]⟩) (c := roomB (y383.length + ([46, 46] : List UInt8).length)) (tr2 := []) (H2 := [.gone, .gone, .box [.int .i64 ((nth x1.R_ s218.1).a0_), .int .i64 ((nth x1.R_ s218.1).a1_)], .gone, vecL (encI .u8) 1 5 ((y383 ++ (bytesI ([46, 46] : List UInt8))))]) (by kernel_rfl) (roomB_of_room hm) (fun hc => (by rw [bytes_eq, ← bytesI_len ([46, 46] : List UInt8)]; exact N.app)) (by kernel_rfl) ?_
        refine kC 1 [0,4,6,28,29,30] ?_
        refine kEN ?_
        refine kR ?_
        refine kC 3 [0,4,28,29,30,51,53] ?_
        obtain ⟨y390, hy391, h392⟩ := bindS h389
        refine kCG (some 54) (args := [.vc 4, .int .i64 ((nth x1.R_ s218.1).a1_), .int .i64 10]) (v := .vc 5) (H2 := [.gone, .gone, .box [.int .i64 ((nth x1.R_ s218.1).a0_), .int .i64 ((nth x1.R_ s218.1).a1_)], .gone, .gone, vecL (encI .u8) 1 5 y390]) [4] (strconv_AppendInt_ok_0o hy391) ?_
        refine kC 1 [0,4,28,29,30] ?_
        refine kE ?_
        refine PJ.blockNormal ?_
        obtain rfl := oi h392
        refine kW (L2 := [(0, .vc 1), (4, .nl), (28, lsv encSt73 2 x1.R_), (29, .int .i64 (x1.R_.length : Int)), (30, .int .i64 s218.1)]) (H2 := [.gone, vecL (encI .u8) 1 5 y390]) hFH hFD [0, 5] ?_
        exact kN [0, 4, 28, 29, 30]
       ·refine kF ?_
        refine kK ?_
        refine PJ.blockNormal ?_
        obtain rfl := oi h388
        refine kW (L2 := [(0, .vc 1), (4, .nl), (28, lsv encSt73 2 x1.R_), (29, .int .i64 (x1.R_.length : Int)), (30, .int .i64 s218.1)]) (H2 := [.gone, vecL (encI .u8) 1 5 y383]) hFH hFD [0, 3] ?_
        exact kN [0, 4, 28, 29, 30]
     ·refine kR ?_
      refine kC 2 [0,4,28,29,30] ?_
      refine kE ?_
      obtain rfl := oi h368
      exact kLN [0, 4, 28, 29, 30]
    ·refine kF ?_
     refine K.exit 0 (by kernel_rfl) ?_
     refine PJ.passExit ?_
     obtain rfl := oi h339
     refine PJ.loopOut (fun e => nomatch e) (fun he394 => ?_)
     have h393 := congrArg some he394
     refine PJ.blockOut ?_
     obtain rfl := oi h393
     exact kN [0, 4]
   ·refine kSR ?_
    refine kC 2 [4] ?_
    refine kEN ?_
    refine kX ?_
    obtain rfl := oi h217
    exact kV [0, 1] hFn hFH hFD (v1 := .vc 1)
def rule_Text (x0 : List (List St71)) : Option (List UInt8) :=
 (Option.bind (loopN (fun (s1143 : Int × (List Int)) => (bif (decide (s1143.1 < (x0.length : Int))) then (Option.bind (bif inR s1143.1 x0.length then (loopN (fun (s2095 : Int × (List Int)) => (bif (decide (s2095.1 < ((nth x0 s1143.1).length : Int))) then (Option.bind (bif inR s2095.1 (nth x0 s1143.1).length then (Option.bind (bif (decide ((s2095.2.length : Int) = 0)) then (some s2095.2) else (bif (decide (s2095.1 = 0)) then (bif room (s2095.2.length + ([32, 111, 114, 32] : List UInt8).length) then (some ((s2095.2 ++ (bytesI ([32, 111, 114, 32] : List UInt8))))) else none) else (bif room (s2095.2.length + ([32, 97, 110, 100, 32] : List UInt8).length) then (some ((s2095.2 ++ (bytesI ([32, 97, 110, 100, 32] : List UInt8))))) else none))) fun (s2260 : (List Int)) => (Option.bind (rule_relation s2260 (nth (nth x0 s1143.1) s2095.1)) fun y2273 => (some y2273))) else none) fun (s2246 : (List Int)) => (some (.inl ((IntKind.wrap .i64 (s2095.1 + 1)), s2246)))) else (some (.inr s2095.2)))) big (0, s1143.2)) else none) fun (s2089 : (List Int)) => (some (.inl ((IntKind.wrap .i64 (s1143.1 + 1)), s2089)))) else (some (.inr s1143.2)))) big (0, ([] : List Int))) fun (s1138 : (List Int)) => (some (bytesS s1138)))
theorem rule_Text_ok {x0 : List (List St71)} {r : List UInt8} (h : rule_Text x0 = some r) : SC Tryd.prog 31 [lsv (encL encSt71 4) 1 x0] [] (.str r) [] := by
 refine kFn (fn := Tryd.f31) (fun F hFn hFH hFD => ?_)
 unfold rule_Text at h
 refine kSR ?_
 refine kC 1 [0,2] ?_
 refine kEN ?_
 refine kSR ?_
 refine kC 1 [0,2,3] ?_
 refine kEN ?_
 obtain ⟨s1138, hy1140, h1142⟩ := bindS h
 refine K.cutN (by kernel_rfl) (fun (s1138 : (List Int)) => ([(2, .str ([] : List UInt8)), (3, .vc 0)], [vecL (encI .u8) 1 5 s1138])) s1138 ?_ ?_
 ·refine kSR ?_
  refine kC 3 [2,3,8,9,10] ?_
  refine kEN ?_
  refine kb 0 ?_
  refine J.wk (Wk.viv 3 1 5 (by kernel_rfl)) ?_
  refine kl (fun (s1143 : Int × (List Int)) => ([(2, .str ([] : List UInt8)), (3, .vc 0), (8, lsv (encL encSt71 4) 1 x0), (9, .int .i64 (x0.length : Int)), (10, .int .i64 s1143.1)], [vecL (encI .u8) 1 5 s1143.2])) hy1140 [2, 3, 8, 9, 10] (fun s1143 x1901 hs1900 => ?_)
  refine kSR ?_
  refine kC 1 [2,3,8,9,10,11] ?_
  refine kEN ?_
  refine kS ?_
  refine kBJ 11 hs1900 (fun h1903 => ?_) (fun h1904 => ?_)
  ·refine kT ?_
   refine kK ?_
   refine PJ.next ?_
   obtain ⟨s2089, hy2091, h2093⟩ := bindS h1903
   refine K.cutN (by kernel_rfl) (fun (s2089 : (List Int)) => ([(2, .str ([] : List UInt8)), (3, .vc 0), (8, lsv (encL encSt71 4) 1 x0), (9, .int .i64 (x0.length : Int)), (10, .int .i64 s1143.1)], [vecL (encI .u8) 1 5 s2089])) s2089 ?_ ?_
   ·refine kb 1 ?_
    refine kSR ?_
    obtain ⟨hm, h2094⟩ := asrt hy2091
    refine kI 12 (encL_len encSt71 4) hm ?_
    refine kC 2 [2,3,5,8,9,10] ?_
    refine kEN ?_
    refine kSR ?_
    refine kC 3 [2,3,8,9,10,14,15,16] ?_
    refine kEN ?_
    refine kb 2 ?_
    refine kl (fun (s2095 : Int × (List Int)) => ([(2, .str ([] : List UInt8)), (3, .vc 0), (8, lsv (encL encSt71 4) 1 x0), (9, .int .i64 (x0.length : Int)), (10, .int .i64 s1143.1), (14, lsv encSt71 4 (nth x0 s1143.1)), (15, .int .i64 ((nth x0 s1143.1).length : Int)), (16, .int .i64 s2095.1)], [vecL (encI .u8) 1 5 s2095.2])) h2094 [2, 3, 8, 9, 10, 14, 15, 16] (fun s2095 x2217 hs2216 => ?_)
    refine kSR ?_
    refine kC 1 [2,3,8,9,10,14,15,16,17] ?_
    refine kEN ?_
    refine kS ?_
    refine kBJ 17 hs2216 (fun h2219 => ?_) (fun h2220 => ?_)
    ·refine kT ?_
     refine kK ?_
     refine PJ.next ?_
     obtain ⟨s2246, hy2248, h2250⟩ := bindS h2219
     refine K.cutN (by kernel_rfl) (fun (s2246 : (List Int)) => ([(2, .str ([] : List UInt8)), (3, .vc 0), (8, lsv (encL encSt71 4) 1 x0), (9, .int .i64 (x0.length : Int)), (10, .int .i64 s1143.1), (14, lsv encSt71 4 (nth x0 s1143.1)), (15, .int .i64 ((nth x0 s1143.1).length : Int)), (16, .int .i64 s2095.1)], [vecL (encI .u8) 1 5 s2246])) s2246 ?_ ?_
     ·refine kb 3 ?_
      refine kSR ?_
      refine kC 1 [2,3,8,9,10,14,15,16,18] ?_
      obtain ⟨hm, h2251⟩ := asrt hy2248
      refine kI 19 encSt71_len hm ?_
      refine kC 4 [2,3,6,7,8,9,10,14,15,16] ?_
      refine kEN ?_
      obtain ⟨s2260, hy2262, h2264⟩ := bindS h2251
      refine K.cutN (by kernel_rfl) (fun (s2260 : (List Int)) => ([(2, .str ([] : List UInt8)), (3, .vc 0), (7, .ptr 1 0), (8, lsv (encL encSt71 4) 1 x0), (9, .int .i64 (x0.length : Int)), (10, .int .i64 s1143.1), (14, lsv encSt71 4 (nth x0 s1143.1)), (15, .int .i64 ((nth x0 s1143.1).length : Int)), (16, .int .i64 s2095.1)], [vecL (encI .u8) 1 5 s2260, .box [.int .u8 ((nth (nth x0 s1143.1) s2095.1).Op_), .int .i64 ((nth (nth x0 s1143.1) s2095.1).Mod_), .bool ((nth (nth x0 s1143.1) s2095.1).Not_), lsv encSt73 2 ((nth (nth x0 s1143.1) s2095.1).R_)]])) s2260 ?_ ?_
      ·refine kb 4 ?_
       refine kSR ?_
       refine kC 4 [2,3,6,7,8,9,10,14,15,16,23] ?_
       refine kEN ?_
       refine kBJ 23 hy2262 (fun h2266 => ?_) (fun h2267 => ?_)
       ·refine kT ?_
        refine kK ?_
        refine PJ.blockNormal ?_
        obtain rfl := oi h2266
        exact kN [2, 3, 7, 8, 9, 10, 14, 15, 16]
       ·refine kF ?_
        refine kSR ?_
        refine kC 3 [2,3,7,8,9,10,14,15,16,27] ?_
        refine kEN ?_
        refine kBJ 27 h2267 (fun h2269 => ?_) (fun h2270 => ?_)
        ·refine kT ?_
         refine kR ?_
         refine kC 1 [2,3,7,8,9,10,14,15,16,30] ?_
         obtain ⟨hm, h2271⟩ := asrt h2269
         refine RJ.rel (d := (some 31)) (ef := ⟨.vc 2, [0], [(0, .gone), (2, .vec (s2095.2.length + ([32, 111, 114, 32] : List UInt8).length) 1 5 (s2095.2.flatMap (encI .u8) ++ ([32, 111, 114, 32] : List UInt8).map byteSV))]⟩) (ef' := ⟨.vc 2, [0], [(0, .gone), (2, vecL (encI .u8) 1 5 (s2095.2 ++ (bytesI ([32, 111, 114, 32] : List UInt8))))]⟩) (c := roomB (s2095.2.length + ([32, 111, 114, 32] : List UInt8).length)) (tr2 := []) (H2 := [.gone, .box [.int .u8 ((nth (nth x0 s1143.1) s2095.1).Op_), .int .i64 ((nth (nth x0 s1143.1) s2095.1).Mod_), .bool ((nth (nth x0 s1143.1) s2095.1).Not_), lsv encSt73 2 ((nth (nth x0 s1143.1) s2095.1).R_)], vecL (encI .u8) 1 5 ((s2095.2 ++ (bytesI ([32, 111, 114, 32] : List UInt8))))]) (by kernel_rfl) (roomB_of_room hm) (fun hc => (by rw [bytes_eq, ← bytesI_len ([32, 111, 114, 32] : List UInt8)]; exact N.app)) (by kernel_rfl) ?_
         refine kC 1 [2,3,7,8,9,10,14,15,16] ?_
         refine kE ?_
         refine PJ.blockNormal ?_
         obtain rfl := oi h2271
         refine kW (L2 := [(2, .str ([] : List UInt8)), (3, .vc 0), (7, .ptr 1 0), (8, lsv (encL encSt71 4) 1 x0), (9, .int .i64 (x0.length : Int)), (10, .int .i64 s1143.1), (14, lsv encSt71 4 (nth x0 s1143.1)), (15, .int .i64 ((nth x0 s1143.1).length : Int)), (16, .int .i64 s2095.1)]) (H2 := [vecL (encI .u8) 1 5 ((s2095.2 ++ (bytesI ([32, 111, 114, 32] : List UInt8)))), .box [.int .u8 ((nth (nth x0 s1143.1) s2095.1).Op_), .int .i64 ((nth (nth x0 s1143.1) s2095.1).Mod_), .bool ((nth (nth x0 s1143.1) s2095.1).Not_), lsv encSt73 2 ((nth (nth x0 s1143.1) s2095.1).R_)]]) hFH hFD [2, 1] ?_
         exact kN [2, 3, 7, 8, 9, 10, 14, 15, 16]
        ·refine kF ?_
         refine kR ?_
         refine kC 1 [2,3,7,8,9,10,14,15,16,21] ?_
         obtain ⟨hm, h2272⟩ := asrt h2270
         refine RJ.rel (d := (some 22)) (ef := ⟨.vc 2, [0], [(0, .gone), (2, .vec (s2095.2.length + ([32, 97, 110, 100, 32] : List UInt8).length) 1 5 (s2095.2.flatMap (encI .u8) ++ ([32, 97, 110, 100, 32] : List UInt8).map byteSV))]⟩) (ef' := ⟨.vc 2, [0], [(0, .gone), (2, vecL (encI .u8) 1 5 (s2095.2 ++ (bytesI ([32, 97, 110, 100, 32] : List UInt8))))]⟩) (c := roomB (s2095.2.length + ([32, 97, 110, 100, 32] : List UInt8).length)) (tr2 := []) (H2 := [.gone, .box [.int .u8 ((nth (nth x0 s1143.1) s2095.1).Op_), .int .i64 ((nth (nth x0 s1143.1) s2095.1).Mod_), .bool ((nth (nth x0 s1143.1) s2095.1).Not_), lsv encSt73 2 ((nth (nth x0 s1143.1) s2095.1).R_)], vecL (encI .u8) 1 5 ((s2095.2 ++ (bytesI ([32, 97, 110, 100, 32] : List UInt8))))]) (by kernel_rfl) (roomB_of_room hm) (fun hc => (by rw [bytes_eq, ← bytesI_len ([32, 97, 110, 100, 32] : List UInt8)]; exact N.app)) (by kernel_rfl) ?_
         refine kC 1 [2,3,7,8,9,10,14,15,16] ?_
         refine kE ?_
         refine PJ.blockNormal ?_
         obtain rfl := oi h2272
         refine kW (L2 := [(2, .str ([] : List UInt8)), (3, .vc 0), (7, .ptr 1 0), (8, lsv (encL encSt71 4) 1 x0), (9, .int .i64 (x0.length : Int)), (10, .int .i64 s1143.1), (14, lsv encSt71 4 (nth x0 s1143.1)), (15, .int .i64 ((nth x0 s1143.1).length : Int)), (16, .int .i64 s2095.1)]) (H2 := [vecL (encI .u8) 1 5 ((s2095.2 ++ (bytesI ([32, 97, 110, 100, 32] : List UInt8)))), .box [.int .u8 ((nth (nth x0 s1143.1) s2095.1).Op_), .int .i64 ((nth (nth x0 s1143.1) s2095.1).Mod_), .bool ((nth (nth x0 s1143.1) s2095.1).Not_), lsv encSt73 2 ((nth (nth x0 s1143.1) s2095.1).R_)]]) hFH hFD [2, 1] ?_
         exact kN [2, 3, 7, 8, 9, 10, 14, 15, 16]
      ·refine kR ?_
       refine kC 2 [2,3,8,9,10,14,15,16,32,33] ?_
       obtain ⟨y2273, hy2274, h2275⟩ := bindS h2264
       refine kCG (some 34) (args := [.vc 0, .agg [.int .u8 ((nth (nth x0 s1143.1) s2095.1).Op_), .int .i64 ((nth (nth x0 s1143.1) s2095.1).Mod_), .bool ((nth (nth x0 s1143.1) s2095.1).Not_), lsv encSt73 2 ((nth (nth x0 s1143.1) s2095.1).R_)]]) (v := .vc 2) (H2 := [.gone, .box [.int .u8 ((nth (nth x0 s1143.1) s2095.1).Op_), .int .i64 ((nth (nth x0 s1143.1) s2095.1).Mod_), .bool ((nth (nth x0 s1143.1) s2095.1).Not_), lsv encSt73 2 ((nth (nth x0 s1143.1) s2095.1).R_)], vecL (encI .u8) 1 5 y2273]) [0] (rule_relation_ok_0o hy2274) ?_
       refine kC 1 [2,3,8,9,10,14,15,16] ?_
       refine kE ?_
       refine PJ.blockNormal ?_
       obtain rfl := oi h2275
       refine kW (L2 := [(2, .str ([] : List UInt8)), (3, .vc 0), (8, lsv (encL encSt71 4) 1 x0), (9, .int .i64 (x0.length : Int)), (10, .int .i64 s1143.1), (14, lsv encSt71 4 (nth x0 s1143.1)), (15, .int .i64 ((nth x0 s1143.1).length : Int)), (16, .int .i64 s2095.1)]) (H2 := [vecL (encI .u8) 1 5 y2273]) hFH hFD [2] ?_
       exact kN [2, 3, 8, 9, 10, 14, 15, 16]
     ·refine kR ?_
      refine kC 2 [2,3,8,9,10,14,15,16] ?_
      refine kE ?_
      obtain rfl := oi h2250
      exact kLN [2, 3, 8, 9, 10, 14, 15, 16]
    ·refine kF ?_
     refine K.exit 2 (by kernel_rfl) ?_
     refine PJ.passExit ?_
     obtain rfl := oi h2220
     refine PJ.loopOut (fun e => nomatch e) (fun he2277 => ?_)
     have h2276 := congrArg some he2277
     refine PJ.blockOut ?_
     refine PJ.blockNormal ?_
     obtain rfl := oi h2276
     exact kN [2, 3, 8, 9, 10]
   ·refine kR ?_
    refine kC 2 [2,3,8,9,10] ?_
    refine kE ?_
    obtain rfl := oi h2093
    exact kLN [2, 3, 8, 9, 10]
  ·refine kF ?_
   refine K.exit 0 (by kernel_rfl) ?_
   refine PJ.passExit ?_
   obtain rfl := oi h1904
   refine PJ.loopOut (fun e => nomatch e) (fun he2279 => ?_)
   have h2278 := congrArg some he2279
   refine PJ.blockOut ?_
   obtain rfl := oi h2278
   exact kN [2, 3]
 ·refine kSR ?_
  refine kC 1 [2,37] ?_
  refine RJ.rel (d := (some 38)) (ef := ⟨.str ((s1138.flatMap (encI .u8)).map Go.Sy.byteOf), [0], []⟩) (ef' := ⟨.str (bytesS s1138), [0], []⟩) (c := (s1138.flatMap (encI .u8)).all isByte) (tr2 := []) (H2 := [vecL (encI .u8) 1 5 s1138]) (by kernel_rfl) (allByte s1138) (fun hc => N.toStr) (by kernel_rfl) ?_
  refine kC 1 [2] ?_
  refine kEN ?_
  refine kX ?_
  obtain rfl := oi h1142
  exact kZ hFn hFH hFD
def slices_Equal (x0 : List St73) (x1 : List St73) : Option (Bool) :=
 (bif (decide (¬ (x0.length : Int) = (x1.length : Int))) then (some false) else (Option.bind (loopN (fun (s51 : Int) => (bif (decide (s51 < (x0.length : Int))) then (bif inR s51 x0.length then (bif inR s51 x1.length then (bif (!((decide (((nth x0 s51).a0_) = ((nth x1 s51).a0_))) && ((decide (((nth x0 s51).a1_) = ((nth x1 s51).a1_))) && true))) then (some (.inr (.inr false))) else (some (.inl (IntKind.wrap .i64 (s51 + 1))))) else none) else none) else (some (.inr (.inl ()))))) big 0) (joinX fun (s46 : Unit) => (some true))))
theorem slices_Equal_ok {x0 : List St73} {x1 : List St73} {r : Bool} (h : slices_Equal x0 x1 = some r) : SC Tryd.prog 48 [lsv encSt73 2 x0, lsv encSt73 2 x1] [] (.bool r) [] := by
 refine kFn (fn := Tryd.f48) (fun F hFn hFH hFD => ?_)
 unfold slices_Equal at h
 refine kSR ?_
 refine kC 1 [0,1,4] ?_
 refine kEN ?_
 refine kS ?_
 refine kSR ?_
 refine kC 5 [0,1,4,10] ?_
 refine kEN ?_
 refine kBJ 10 h (fun h2 => ?_) (fun h3 => ?_)
 ·refine kT ?_
  refine kSR ?_
  refine kC 1 [0,1,4] ?_
  refine kEN ?_
  refine kX ?_
  refine PJ.passRet ?_
  obtain rfl := oi h2
  exact kZ hFn hFH hFD
 ·refine kF ?_
  refine kK ?_
  refine PJ.next ?_
  obtain ⟨y47, hy48, h49⟩ := bindS h3
  refine K.cutX (by kernel_rfl) (fun (s46 : Unit) => ([(4, .bool false)], [])) y47 ?_ (fun s46 hs => ?_)
  ·refine kSR ?_
   refine kC 3 [0,1,4,12,13] ?_
   refine kEN ?_
   refine kb 0 ?_
   refine kl (fun (s51 : Int) => ([(0, lsv encSt73 2 x0), (1, lsv encSt73 2 x1), (4, .bool false), (12, .int .i64 (x0.length : Int)), (13, .int .i64 s51)], [])) hy48 [0, 1, 4, 12, 13] (fun s51 x79 hs78 => ?_)
   refine kSR ?_
   refine kC 1 [0,1,4,12,13,14] ?_
   refine kEN ?_
   refine kS ?_
   refine kBJ 14 hs78 (fun h81 => ?_) (fun h82 => ?_)
   ·refine kT ?_
    refine kK ?_
    refine PJ.next ?_
    refine kS ?_
    refine kb 1 ?_
    refine kSR ?_
    refine kC 2 [0,1,4,5,12,13] ?_
    refine kEN ?_
    refine kS ?_
    refine J.keep [0, 1, 4, 5, 12, 13] (L2 := [(0, lsv encSt73 2 x0), (1, lsv encSt73 2 x1), (4, .bool false), (5, .int .i64 s51), (12, .int .i64 (x0.length : Int)), (13, .int .i64 s51)]) (by kernel_rfl) ?_
    refine K.draw (by kernel_rfl) (by kernel_rfl) (by kernel_rfl) (H2 := []) (by kernel_rfl) (n := 0) (by kernel_rfl) ?_
    refine kD 2 ?_
    obtain ⟨hm, h83⟩ := asrt h81
    refine kJ 18 (tr2 := [([], []), ([], []), ([], [])]) encSt73_len hm ?_
    refine kD 3 ?_
    obtain ⟨hm, h84⟩ := asrt h83
    refine kJ 22 (tr2 := [([], []), ([], []), ([], []), ([], []), ([], []), ([], []), ([], [])]) encSt73_len hm ?_
    refine kD 2 ?_
    refine kEN ?_
    refine kBJ 24 h84 (fun h86 => ?_) (fun h87 => ?_)
    ·refine kT ?_
     refine kSR ?_
     refine kC 1 [0,1,4,12,13] ?_
     refine kEN ?_
     refine kX ?_
     refine PJ.blockRet ?_
     refine PJ.passRet ?_
     obtain rfl := oi h86
     refine PJ.loopOut (fun e => nomatch e) (fun he90 => ?_)
     have h88 := congrArg some he90
     refine PJ.blockRet ?_
     obtain rfl := oi h88
     have h89 := joinX_inr h49
     refine PJ.cutXr (fun e => nomatch e) ?_
     obtain rfl := oi h89
     exact kZ hFn hFH hFD
    ·refine kF ?_
     refine kK ?_
     refine PJ.blockNormal ?_
     refine PJ.next ?_
     refine kR ?_
     refine kC 2 [0,1,4,12,13] ?_
     refine kE ?_
     obtain rfl := oi h87
     exact kLN [0, 1, 4, 12, 13]
   ·refine kF ?_
    refine K.exit 0 (by kernel_rfl) ?_
    refine PJ.passExit ?_
    obtain rfl := oi h82
    refine PJ.loopOut (fun e => nomatch e) (fun he92 => ?_)
    have h91 := congrArg some he92
    refine PJ.blockOut ?_
    obtain rfl := oi h91
    exact kXl [4]
  ·subst hs
   have h50 := joinX_inl h49
   refine kSR ?_
   refine kC 1 [4] ?_
   refine kEN ?_
   refine kX ?_
   obtain rfl := oi h50
   exact kZ hFn hFH hFD
def rule_sameRel (x0 : St71) (x1 : St71) : Option (Bool) :=
 (Option.bind (bif (decide (x0.Op_ = x1.Op_)) then (bif (decide (x0.Mod_ = x1.Mod_)) then (bif (x0.Not_ == x1.Not_) then (Option.bind (slices_Equal x0.R_ x1.R_) fun y27 => (some y27)) else (some false)) else (some false)) else (some false)) fun (s13 : Bool) => (some s13))
theorem rule_sameRel_ok {x0 : St71} {x1 : St71} {r : Bool} (h : rule_sameRel x0 x1 = some r) : SC Tryd.prog 38 [.agg (encSt71 x0), .agg (encSt71 x1)] [] (.bool r) [] := by
 refine kFn (fn := Tryd.f38) (fun F hFn hFH hFD => ?_)
 unfold rule_sameRel at h
 refine kSR ?_
 refine kC 3 [2,3,4] ?_
 refine kEN ?_
 obtain ⟨s13, hy15, h17⟩ := bindS h
 refine K.cutN (by kernel_rfl) (fun (s13 : Bool) => ([(4, .bool s13)], [])) s13 ?_ ?_
 ·refine kR ?_
  refine kC 6 [2,3,4,10] ?_
  refine kB 10 hy15 (fun h19 => ?_) (fun h20 => ?_)
  ·refine kC 7 [2,3,4,17] ?_
   refine kB 17 h19 (fun h22 => ?_) (fun h23 => ?_)
   ·refine kC 7 [2,3,4,24] ?_
    refine kB 24 h22 (fun h25 => ?_) (fun h26 => ?_)
    ·refine kC 4 [4,24,26,28] ?_
     obtain ⟨y27, hy28, h29⟩ := bindS h25
     refine kA 29 (slices_Equal_ok hy28) ?_
     refine kC 2 [4] ?_
     refine kE ?_
     obtain rfl := oi h29
     refine kW (L2 := [(4, .bool y27)]) (H2 := []) hFH hFD [] ?_
     exact kN [4]
    ·refine kC 7 [4] ?_
     refine kE ?_
     obtain rfl := oi h26
     refine kW (L2 := [(4, .bool false)]) (H2 := []) hFH hFD [] ?_
     exact kN [4]
   ·refine kC 14 [4] ?_
    refine kE ?_
    obtain rfl := oi h23
    refine kW (L2 := [(4, .bool false)]) (H2 := []) hFH hFD [] ?_
    exact kN [4]
  ·refine kC 21 [4] ?_
   refine kE ?_
   obtain rfl := oi h20
   refine kW (L2 := [(4, .bool false)]) (H2 := []) hFH hFD [] ?_
   exact kN [4]
 ·refine kX ?_
  obtain rfl := oi h17
  exact kZ hFn hFH hFD
def api_Rel__37_s0 (x0 : List St71) (x1 : List St71) : Option (Bool) :=
 (bif (decide (¬ (x0.length : Int) = (x1.length : Int))) then (some false) else (Option.bind (loopN (fun (s60 : Int) => (bif (decide (s60 < (x0.length : Int))) then (bif inR s60 x0.length then (bif inR s60 x1.length then (Option.bind (rule_sameRel (nth x0 s60) (nth x1 s60)) fun y100 => (bif (!y100) then (some (.inr (.inr false))) else (some (.inl (IntKind.wrap .i64 (s60 + 1)))))) else none) else none) else (some (.inr (.inl ()))))) big 0) (joinX fun (s55 : Unit) => (some true))))
theorem api_Rel__37_s0_ok {x0 : List St71} {x1 : List St71} {r : Bool} (h : api_Rel__37_s0 x0 x1 = some r) : SC Tryd.prog 37 [lsv encSt71 4 x0, lsv encSt71 4 x1, .fn (.func 38) [] []] [] (.bool r) [] := by
 refine kFn (fn := Tryd.f37) (fun F hFn hFH hFD => ?_)
 unfold api_Rel__37_s0 at h
 refine kSR ?_
 refine kC 1 [0,1,2,6] ?_
 refine kEN ?_
 refine kS ?_
 refine kSR ?_
 refine kC 5 [0,1,2,6,14] ?_
 refine kEN ?_
 refine kBJ 14 h (fun h2 => ?_) (fun h3 => ?_)
 ·refine kT ?_
  refine kSR ?_
  refine kC 1 [0,1,2,6] ?_
  refine kEN ?_
  refine kX ?_
  refine PJ.passRet ?_
  obtain rfl := oi h2
  exact kV [] hFn hFH hFD (v1 := .bool false)
 ·refine kF ?_
  refine kK ?_
  refine PJ.next ?_
  obtain ⟨y56, hy57, h58⟩ := bindS h3
  refine K.cutX (by kernel_rfl) (fun (s55 : Unit) => ([(6, .bool false)], [])) y56 ?_ (fun s55 hs => ?_)
  ·refine kSR ?_
   refine kC 3 [1,2,6,15,16,17] ?_
   refine kEN ?_
   refine kb 0 ?_
   refine kl (fun (s60 : Int) => ([(1, lsv encSt71 4 x1), (2, .fn (.func 38) [] []), (6, .bool false), (15, lsv encSt71 4 x0), (16, .int .i64 (x0.length : Int)), (17, .int .i64 s60)], [])) hy57 [1, 2, 6, 15, 16, 17] (fun s60 x94 hs93 => ?_)
   refine kSR ?_
   refine kC 1 [1,2,6,15,16,17,18] ?_
   refine kEN ?_
   refine kS ?_
   refine kBJ 18 hs93 (fun h96 => ?_) (fun h97 => ?_)
   ·refine kT ?_
    refine kK ?_
    refine PJ.next ?_
    refine kS ?_
    refine kb 1 ?_
    refine kSR ?_
    refine kC 1 [1,2,6,15,16,17,19] ?_
    obtain ⟨hm, h98⟩ := asrt h96
    refine kI 20 encSt71_len hm ?_
    refine kC 4 [1,2,6,7,8,15,16,17] ?_
    refine kEN ?_
    refine kSR ?_
    refine kC 2 [1,2,6,8,15,16,17,22,23] ?_
    obtain ⟨hm, h99⟩ := asrt h98
    refine kI 24 encSt71_len hm ?_
    refine kC 3 [1,2,6,8,9,15,16,17] ?_
    refine kEN ?_
    refine kSR ?_
    refine kC 3 [1,2,6,15,16,17,26,27,28] ?_
    obtain ⟨y100, hy101, h102⟩ := bindS h99
    refine kA 29 (rule_sameRel_ok hy101) ?_
    refine kC 1 [1,2,6,15,16,17,30] ?_
    refine kEN ?_
    refine kBJ 30 h102 (fun h104 => ?_) (fun h105 => ?_)
    ·refine kT ?_
     refine kSR ?_
     refine kC 1 [1,2,6,15,16,17] ?_
     refine kEN ?_
     refine kX ?_
     refine PJ.blockRet ?_
     refine PJ.passRet ?_
     obtain rfl := oi h104
     refine PJ.loopOut (fun e => nomatch e) (fun he108 => ?_)
     have h106 := congrArg some he108
     refine PJ.blockRet ?_
     obtain rfl := oi h106
     have h107 := joinX_inr h58
     refine PJ.cutXr (fun e => nomatch e) ?_
     obtain rfl := oi h107
     exact kV [] hFn hFH hFD (v1 := .bool false)
    ·refine kF ?_
     refine kK ?_
     refine PJ.blockNormal ?_
     refine PJ.next ?_
     refine kR ?_
     refine kC 2 [1,2,6,15,16,17] ?_
     refine kE ?_
     obtain rfl := oi h105
     refine kW (L2 := [(1, lsv encSt71 4 x1), (2, .fn (.func 38) [] []), (6, .bool false), (15, lsv encSt71 4 x0), (16, .int .i64 (x0.length : Int)), (17, .int .i64 (IntKind.wrap .i64 (s60 + 1)))]) (H2 := []) hFH hFD [] ?_
     exact kLN [1, 2, 6, 15, 16, 17]
   ·refine kF ?_
    refine K.exit 0 (by kernel_rfl) ?_
    refine PJ.passExit ?_
    obtain rfl := oi h97
    refine PJ.loopOut (fun e => nomatch e) (fun he110 => ?_)
    have h109 := congrArg some he110
    refine PJ.blockOut ?_
    obtain rfl := oi h109
    exact kXl [6]
  ·subst hs
   have h59 := joinX_inl h58
   refine kSR ?_
   refine kC 1 [6] ?_
   refine kEN ?_
   refine kX ?_
   obtain rfl := oi h59
   exact kV [] hFn hFH hFD (v1 := .bool true)
def rule_Same_1 (x0 : List St71) (x1 : List St71) : Option (Bool) :=
 (Option.bind (api_Rel__37_s0 x0 x1) fun y1 => (some y1))
theorem rule_Same_1_ok {x0 : List St71} {x1 : List St71} {r : Bool} (h : rule_Same_1 x0 x1 = some r) : SC Tryd.prog 36 [lsv encSt71 4 x0, lsv encSt71 4 x1] [] (.bool r) [] := by
 refine kFn (fn := Tryd.f36) (fun F hFn hFH hFD => ?_)
 unfold rule_Same_1 at h
 refine kSR ?_
 refine kC 1 [0,1,4] ?_
 refine kEN ?_
 refine kSR ?_
 refine kC 2 [4,5,6] ?_
 obtain ⟨y1, hy2, h3⟩ := bindS h
 refine kCG (some 7) (args := [lsv encSt71 4 x0, lsv encSt71 4 x1, .fn (.func 38) [] []]) (v := .bool y1) (H2 := []) [] (api_Rel__37_s0_ok hy2) ?_
 refine kC 1 [4] ?_
 refine kEN ?_
 refine kX ?_
 obtain rfl := oi h3
 exact kZ hFn hFH hFD
def api_Rel__s0 (x0 : List (List St71)) (x1 : List (List St71)) : Option (Bool) :=
 (bif (decide (¬ (x0.length : Int) = (x1.length : Int))) then (some false) else (Option.bind (loopN (fun (s60 : Int) => (bif (decide (s60 < (x0.length : Int))) then (bif inR s60 x0.length then (bif inR s60 x1.length then (Option.bind (rule_Same_1 (nth x0 s60) (nth x1 s60)) fun y100 => (bif (!y100) then (some (.inr (.inr false))) else (some (.inl (IntKind.wrap .i64 (s60 + 1)))))) else none) else none) else (some (.inr (.inl ()))))) big 0) (joinX fun (s55 : Unit) => (some true))))
theorem api_Rel__s0_ok {x0 : List (List St71)} {x1 : List (List St71)} {r : Bool} (h : api_Rel__s0 x0 x1 = some r) : SC Tryd.prog 35 [lsv (encL encSt71 4) 1 x0, lsv (encL encSt71 4) 1 x1, .fn (.func 36) [] []] [] (.bool r) [] := by
 refine kFn (fn := Tryd.f35) (fun F hFn hFH hFD => ?_)
 unfold api_Rel__s0 at h
 refine kSR ?_
 refine kC 1 [0,1,2,6] ?_
 refine kEN ?_
 refine kS ?_
 refine kSR ?_
 refine kC 5 [0,1,2,6,14] ?_
 refine kEN ?_
 refine kBJ 14 h (fun h2 => ?_) (fun h3 => ?_)
 ·refine kT ?_
  refine kSR ?_
  refine kC 1 [0,1,2,6] ?_
  refine kEN ?_
  refine kX ?_
  refine PJ.passRet ?_
  obtain rfl := oi h2
  exact kV [] hFn hFH hFD (v1 := .bool false)
 ·refine kF ?_
  refine kK ?_
  refine PJ.next ?_
  obtain ⟨y56, hy57, h58⟩ := bindS h3
  refine K.cutX (by kernel_rfl) (fun (s55 : Unit) => ([(6, .bool false)], [])) y56 ?_ (fun s55 hs => ?_)
  ·refine kSR ?_
   refine kC 3 [1,2,6,15,16,17] ?_
   refine kEN ?_
   refine kb 0 ?_
   refine kl (fun (s60 : Int) => ([(1, lsv (encL encSt71 4) 1 x1), (2, .fn (.func 36) [] []), (6, .bool false), (15, lsv (encL encSt71 4) 1 x0), (16, .int .i64 (x0.length : Int)), (17, .int .i64 s60)], [])) hy57 [1, 2, 6, 15, 16, 17] (fun s60 x94 hs93 => ?_)
   refine kSR ?_
   refine kC 1 [1,2,6,15,16,17,18] ?_
   refine kEN ?_
   refine kS ?_
   refine kBJ 18 hs93 (fun h96 => ?_) (fun h97 => ?_)
   ·refine kT ?_
    refine kK ?_
    refine PJ.next ?_
    refine kS ?_
    refine kb 1 ?_
    refine kSR ?_
    refine kC 1 [1,2,6,15,16,17,19] ?_
    obtain ⟨hm, h98⟩ := asrt h96
    refine kI 20 (encL_len encSt71 4) hm ?_
    refine kC 3 [1,2,6,7,8,15,16,17] ?_
    refine kEN ?_
    refine kSR ?_
    refine kC 2 [1,2,6,8,15,16,17,22,23] ?_
    obtain ⟨hm, h99⟩ := asrt h98
    refine kI 24 (encL_len encSt71 4) hm ?_
    refine kC 2 [1,2,6,8,9,15,16,17] ?_
    refine kEN ?_
    refine kSR ?_
    refine kC 3 [1,2,6,15,16,17,26,27,28] ?_
    obtain ⟨y100, hy101, h102⟩ := bindS h99
    refine kA 29 (rule_Same_1_ok hy101) ?_
    refine kC 1 [1,2,6,15,16,17,30] ?_
    refine kEN ?_
    refine kBJ 30 h102 (fun h104 => ?_) (fun h105 => ?_)
    ·refine kT ?_
     refine kSR ?_
     refine kC 1 [1,2,6,15,16,17] ?_
     refine kEN ?_
     refine kX ?_
     refine PJ.blockRet ?_
     refine PJ.passRet ?_
     obtain rfl := oi h104
     refine PJ.loopOut (fun e => nomatch e) (fun he108 => ?_)
     have h106 := congrArg some he108
     refine PJ.blockRet ?_
     obtain rfl := oi h106
     have h107 := joinX_inr h58
     refine PJ.cutXr (fun e => nomatch e) ?_
     obtain rfl := oi h107
     exact kV [] hFn hFH hFD (v1 := .bool false)
    ·refine kF ?_
     refine kK ?_
     refine PJ.blockNormal ?_
     refine PJ.next ?_
     refine kR ?_
     refine kC 2 [1,2,6,15,16,17] ?_
     refine kE ?_
     obtain rfl := oi h105
     exact kLN [1, 2, 6, 15, 16, 17]
   ·refine kF ?_
    refine K.exit 0 (by kernel_rfl) ?_
    refine PJ.passExit ?_
    obtain rfl := oi h97
    refine PJ.loopOut (fun e => nomatch e) (fun he110 => ?_)
    have h109 := congrArg some he110
    refine PJ.blockOut ?_
    obtain rfl := oi h109
    exact kXl [6]
  ·subst hs
   have h59 := joinX_inl h58
   refine kSR ?_
   refine kC 1 [6] ?_
   refine kEN ?_
   refine kX ?_
   obtain rfl := oi h59
   exact kV [] hFn hFH hFD (v1 := .bool true)
def rule_Same (x0 : List (List St71)) (x1 : List (List St71)) : Option (Bool) :=
 (Option.bind (api_Rel__s0 x0 x1) fun y1 => (some y1))
theorem rule_Same_ok {x0 : List (List St71)} {x1 : List (List St71)} {r : Bool} (h : rule_Same x0 x1 = some r) : SC Tryd.prog 25 [lsv (encL encSt71 4) 1 x0, lsv (encL encSt71 4) 1 x1] [] (.bool r) [] := by
 refine kFn (fn := Tryd.f25) (fun F hFn hFH hFD => ?_)
 unfold rule_Same at h
 refine kSR ?_
 refine kC 1 [0,1,4] ?_
 refine kEN ?_
 refine kSR ?_
 refine kC 2 [4,5,6] ?_
 obtain ⟨y1, hy2, h3⟩ := bindS h
 refine kCG (some 7) (args := [lsv (encL encSt71 4) 1 x0, lsv (encL encSt71 4) 1 x1, .fn (.func 36) [] []]) (v := .bool y1) (H2 := []) [] (api_Rel__s0_ok hy2) ?_
 refine kC 1 [4] ?_
 refine kEN ?_
 refine kX ?_
 obtain rfl := oi h3
 exact kZ hFn hFH hFD
def rule_Right (x0 : List (List St71)) : Option (Bool) :=
 (Option.bind (rule_Text x0) fun y1 => (Option.bind (rule_Parse y1) fun y4 => (Option.bind (bif (decide (y4.2.2 = 0)) then (Option.bind (rule_Same x0 y4.1) fun y21 => (some y21)) else (some false)) fun (s13 : Bool) => (some s13))))
theorem rule_Right_ok {x0 : List (List St71)} {r : Bool} (h : rule_Right x0 = some r) : SC Tryd.prog 20 [lsv (encL encSt71 4) 1 x0] [] (.bool r) [] := by
 refine kFn (fn := Tryd.f20) (fun F hFn hFH hFD => ?_)
 unfold rule_Right at h
 refine kSR ?_
 refine kC 1 [0,2] ?_
 refine kEN ?_
 refine kSR ?_
 refine kC 1 [0,2,7] ?_
 obtain ⟨y1, hy2, h3⟩ := bindS h
 refine kA 8 (rule_Text_ok hy2) ?_
 obtain ⟨y4, hy5, h6⟩ := bindS h3
 refine kA 9 (rule_Parse_ok hy5) ?_
 refine kC 7 [0,2,3,5] ?_
 refine kEN ?_
 obtain ⟨s13, hy15, h17⟩ := bindS h6
 refine K.cutN (by kernel_rfl) (fun (s13 : Bool) => ([(2, .bool s13)], [])) s13 ?_ ?_
 ·refine kR ?_
  refine kC 3 [0,2,3,15] ?_
  refine kB 15 hy15 (fun h19 => ?_) (fun h20 => ?_)
  ·refine kC 2 [2,15,16,17] ?_
   obtain ⟨y21, hy22, h23⟩ := bindS h19
   refine kA 18 (rule_Same_ok hy22) ?_
   refine kC 2 [2] ?_
   refine kE ?_
   obtain rfl := oi h23
   exact kN [2]
  ·refine kC 5 [2] ?_
   refine kE ?_
   obtain rfl := oi h20
   exact kN [2]
 ·refine kX ?_
  obtain rfl := oi h17
  exact kZ hFn hFH hFD
def plur_Read (x0 : List St45) : Option ((List St36) × Int × Int) :=
 (Option.bind (loopN (fun (s459 : Int × Int × (List St36)) => (bif (decide (s459.2.1 < (x0.length : Int))) then (Option.bind (bif inR s459.2.1 x0.length then (Option.bind (plur_rises s459.1 ((nth x0 s459.2.1).Cat_)) fun y841 => (bif (!y841) then (some (.inr (.inr (.inr (([] : List St36), s459.2.1, 1))))) else (Option.bind (rule_Parse ((nth x0 s459.2.1).Text_)) fun y851 => (Option.bind (Option.bind (bif (decide (¬ y851.2.2 = 0)) then (some true) else (Option.bind (rule_Right y851.1) fun y898 => (some (!y898)))) fun (s890 : Bool) => (bif s890 then (some (.inr (.inr (.inr (.inr (([] : List St36), s459.2.1, 2)))))) else (some (.inl ())))) (joinX fun (s879 : Unit) => (bif room (s459.2.2.length + (([(⟨(nth x0 s459.2.1).Cat_, y851.1⟩ : St36)] : List St36)).length) then (some (.inl ((s459.2.2 ++ (([(⟨(nth x0 s459.2.1).Cat_, y851.1⟩ : St36)] : List St36)))))) else none)))))) else none) (joinX fun (s835 : (List St36)) => (some (.inl ((nth x0 s459.2.1).Cat_, (IntKind.wrap .i64 (s459.2.1 + 1)), s835))))) else (some (.inr (.inl s459.2.2))))) big (0, 0, ([] : List St36))) (joinX fun (s454 : (List St36)) => (some (s454, 0, 0))))
theorem plur_Read_ok {x0 : List St45} {r : (List St36) × Int × Int} (h : plur_Read x0 = some r) : SC Tryd.prog 10 [lsv encSt45 2 x0] [] (.tup [lsv encSt36 2 r.1, .int .i64 r.2.1, .int .i64 r.2.2]) [] := by
 refine kFn (fn := Tryd.f10) (fun F hFn hFH hFD => ?_)
 unfold plur_Read at h
 refine kSR ?_
 refine kC 3 [0,2,3,4] ?_
 refine kEN ?_
 refine kSR ?_
 refine kC 1 [0,2,3,4,5] ?_
 refine kEN ?_
 refine kSR ?_
 refine kC 1 [0,2,3,4,5,6] ?_
 refine kEN ?_
 obtain ⟨y455, hy456, h457⟩ := bindS h
 refine K.cutX (by kernel_rfl) (fun (s454 : (List St36)) => ([(2, .nl), (3, .int .i64 0), (4, .int .i64 0), (5, .vc 0)], [vecL encSt36 2 37 s454])) y455 ?_ (fun s454 hs => ?_)
 ·refine kSR ?_
  refine kC 3 [2,3,4,5,6,12,13,14] ?_
  refine kEN ?_
  refine kb 0 ?_
  refine J.wk (Wk.viv 5 2 37 (by kernel_rfl)) ?_
  refine kl (fun (s459 : Int × Int × (List St36)) => ([(2, .nl), (3, .int .i64 0), (4, .int .i64 0), (5, .vc 0), (6, .int .i64 s459.1), (12, lsv encSt45 2 x0), (13, .int .i64 (x0.length : Int)), (14, .int .i64 s459.2.1)], [vecL encSt36 2 37 s459.2.2])) hy456 [2, 3, 4, 5, 6, 12, 13, 14] (fun s459 x761 hs760 => ?_)
  refine kSR ?_
  refine kC 1 [2,3,4,5,6,12,13,14,15] ?_
  refine kEN ?_
  refine kS ?_
  refine kBJ 15 hs760 (fun h763 => ?_) (fun h764 => ?_)
  ·refine kT ?_
   refine kK ?_
   refine PJ.next ?_
   obtain ⟨y836, hy837, h838⟩ := bindS h763
   refine K.cutX (by kernel_rfl) (fun (s835 : (List St36)) => ([(2, .nl), (3, .int .i64 0), (4, .int .i64 0), (5, .vc 0), (6, .int .i64 ((nth x0 s459.2.1).Cat_)), (12, lsv encSt45 2 x0), (13, .int .i64 (x0.length : Int)), (14, .int .i64 s459.2.1)], [vecL encSt36 2 37 s835])) y836 ?_ (fun s835 hs => ?_)
   ·refine kb 1 ?_
    refine kSR ?_
    refine kC 1 [2,3,4,5,6,12,13,14,16] ?_
    obtain ⟨hm, h840⟩ := asrt hy837
    refine kI 17 encSt45_len hm ?_
    refine kC 4 [2,3,4,5,6,7,8,12,13,14] ?_
    refine kEN ?_
    refine kS ?_
    refine kSR ?_
    refine kC 3 [2,3,4,5,6,7,8,12,13,14,19,21] ?_
    obtain ⟨y841, hy842, h843⟩ := bindS h840
    refine kA 22 (plur_rises_ok hy842) ?_
    refine kC 1 [2,3,4,5,6,7,8,12,13,14,23] ?_
    refine kEN ?_
    refine kBJ 23 h843 (fun h845 => ?_) (fun h846 => ?_)
    ·refine kT ?_
     refine kSR ?_
     refine kC 4 [2,3,4,5,6,7,8,12,13,14] ?_
     refine kEN ?_
     refine kX ?_
     refine PJ.passRet ?_
     refine PJ.blockRet ?_
     obtain rfl := oi h845
     have h847 := joinX_inr h838
     refine PJ.cutXr (fun e => nomatch e) ?_
     obtain rfl := oi h847
     refine PJ.loopOut (fun e => nomatch e) (fun he850 => ?_)
     have h848 := congrArg some he850
     refine PJ.blockRet ?_
     obtain rfl := oi h848
     have h849 := joinX_inr h457
     refine PJ.cutXr (fun e => nomatch e) ?_
     obtain rfl := oi h849
     refine PJ.res (v1 := .tup [.nl, .int .i64 s459.2.1, .int .i64 1]) (Le.tup (.cons (Le.nl _) (.cons (Le.refl _) (.cons (Le.refl _) .nil)))) ?_
     exact kZ hFn hFH hFD
    ·refine kF ?_
     refine kK ?_
     refine PJ.next ?_
     refine kSR ?_
     refine kC 2 [2,3,4,5,6,7,8,12,13,14,27] ?_
     obtain ⟨y851, hy852, h853⟩ := bindS h846
     refine kA 28 (rule_Parse_ok hy852) ?_
     refine kC 7 [2,3,4,5,6,7,8,9,11,12,13,14] ?_
     refine kEN ?_
     obtain ⟨y880, hy881, h882⟩ := bindS h853
     refine K.cutX (by kernel_rfl) (fun (s879 : Unit) => ([(2, .nl), (3, .int .i64 0), (4, .int .i64 0), (5, .vc 0), (6, .int .i64 s459.1), (8, .ptr 1 0), (9, lsv (encL encSt71 4) 1 y851.1), (12, lsv encSt45 2 x0), (13, .int .i64 (x0.length : Int)), (14, .int .i64 s459.2.1)], [vecL encSt36 2 37 s459.2.2, .box [.int .i64 ((nth x0 s459.2.1).Cat_), .str ((nth x0 s459.2.1).Text_)]])) y880 ?_ (fun s879 hs => ?_)
     ·obtain ⟨s890, hy892, h894⟩ := bindS hy881
      refine K.cutN (by kernel_rfl) (fun (s890 : Bool) => ([(2, .nl), (3, .int .i64 0), (4, .int .i64 0), (5, .vc 0), (6, .int .i64 s459.1), (7, .int .i64 s459.2.1), (8, .ptr 1 0), (9, lsv (encL encSt71 4) 1 y851.1), (12, lsv encSt45 2 x0), (13, .int .i64 (x0.length : Int)), (14, .int .i64 s459.2.1), (38, .bool s890)], [vecL encSt36 2 37 s459.2.2, .box [.int .i64 ((nth x0 s459.2.1).Cat_), .str ((nth x0 s459.2.1).Text_)]])) s890 ?_ ?_
      ·refine kR ?_
       refine kC 3 [2,3,4,5,6,7,8,9,12,13,14,34] ?_
       refine kB 34 hy892 (fun h896 => ?_) (fun h897 => ?_)
       ·refine RJ.seg 4 [2, 3, 4, 5, 6, 7, 8, 9, 12, 13, 14, 38] (L2 := [(2, .nl), (3, .int .i64 0), (4, .int .i64 0), (5, .vc 0), (6, .int .i64 s459.1), (7, .int .i64 s459.2.1), (8, .ptr 1 0), (9, lsv (encL encSt71 4) 1 y851.1), (12, lsv encSt45 2 x0), (13, .int .i64 (x0.length : Int)), (14, .int .i64 s459.2.1), (38, .bool true)]) (H2 := [vecL encSt36 2 37 s459.2.2, .box [.int .i64 ((nth x0 s459.2.1).Cat_), .str ((nth x0 s459.2.1).Text_)]]) (by kernel_rfl) ?_
        refine kE ?_
        obtain rfl := oi h896
        exact kN [2, 3, 4, 5, 6, 7, 8, 9, 12, 13, 14, 38]
       ·refine RJ.seg 1 [2, 3, 4, 5, 6, 7, 8, 9, 12, 13, 14, 34, 35] (L2 := [(2, .nl), (3, .int .i64 0), (4, .int .i64 0), (5, .vc 0), (6, .int .i64 s459.1), (7, .int .i64 s459.2.1), (8, .ptr 1 0), (9, lsv (encL encSt71 4) 1 y851.1), (12, lsv encSt45 2 x0), (13, .int .i64 (x0.length : Int)), (14, .int .i64 s459.2.1), (34, .bool false), (35, lsv (encL encSt71 4) 1 y851.1)]) (H2 := [vecL encSt36 2 37 s459.2.2, .box [.int .i64 ((nth x0 s459.2.1).Cat_), .str ((nth x0 s459.2.1).Text_)]]) (by kernel_rfl) ?_
        obtain ⟨y898, hy899, h900⟩ := bindS h897
        refine kA 36 (rule_Right_ok hy899) ?_
        refine kC 2 [2,3,4,5,6,7,8,9,12,13,14,38] ?_
        refine kE ?_
        obtain rfl := oi h900
        exact kN [2, 3, 4, 5, 6, 7, 8, 9, 12, 13, 14, 38]
      ·refine kBJ 38 h894 (fun h902 => ?_) (fun h903 => ?_)
       ·refine kT ?_
        refine kSR ?_
        refine kC 4 [2,3,4,5,6,8,9,12,13,14] ?_
        refine kEN ?_
        refine kX ?_
        obtain rfl := oi h902
        have h904 := joinX_inr h882
        refine PJ.cutXr (fun e => nomatch e) ?_
        refine PJ.blockRet ?_
        obtain rfl := oi h904
        have h905 := joinX_inr h838
        refine PJ.cutXr (fun e => nomatch e) ?_
        obtain rfl := oi h905
        refine PJ.loopOut (fun e => nomatch e) (fun he908 => ?_)
        have h906 := congrArg some he908
        refine PJ.blockRet ?_
        obtain rfl := oi h906
        have h907 := joinX_inr h457
        refine PJ.cutXr (fun e => nomatch e) ?_
        obtain rfl := oi h907
        refine PJ.res (v1 := .tup [.nl, .int .i64 s459.2.1, .int .i64 2]) (Le.tup (.cons (Le.nl _) (.cons (Le.refl _) (.cons (Le.refl _) .nil)))) ?_
        exact kZ hFn hFH hFD
       ·refine kF ?_
        refine kK ?_
        obtain rfl := oi h903
        exact kXl [2, 3, 4, 5, 6, 8, 9, 12, 13, 14]
     ·subst hs
      have h883 := joinX_inl h882
      refine kSR ?_
      refine kC 6 [2,3,4,5,6,8,12,13,14,40,45] ?_
      obtain ⟨hm, h909⟩ := asrt h883
      refine RJ.rel (d := (some 46)) (ef := ⟨.vc 3, [0, 2], [(0, .gone), (3, .vec (s459.2.2.length + (([(⟨(nth x0 s459.2.1).Cat_, y851.1⟩ : St36)] : List St36)).length) 2 37 (s459.2.2.flatMap encSt36 ++ (([(⟨(nth x0 s459.2.1).Cat_, y851.1⟩ : St36)] : List St36)).flatMap encSt36))]⟩) (ef' := ⟨.vc 3, [0, 2], [(0, .gone), (3, vecL encSt36 2 37 (s459.2.2 ++ (([(⟨(nth x0 s459.2.1).Cat_, y851.1⟩ : St36)] : List St36))))]⟩) (c := room (s459.2.2.length + (([(⟨(nth x0 s459.2.1).Cat_, y851.1⟩ : St36)] : List St36)).length)) (tr2 := []) (H2 := [.gone, .box [.int .i64 ((nth x0 s459.2.1).Cat_), .str ((nth x0 s459.2.1).Text_)], vecL encSt36 2 37 (([(⟨(nth x0 s459.2.1).Cat_, y851.1⟩ : St36)] : List St36)), vecL encSt36 2 37 ((s459.2.2 ++ (([(⟨(nth x0 s459.2.1).Cat_, y851.1⟩ : St36)] : List St36))))]) (by kernel_rfl) hm (fun hc => N.app) (by kernel_rfl) ?_
      refine kC 1 [2,3,4,5,6,8,12,13,14] ?_
      refine kEN ?_
      refine kR ?_
      refine kC 3 [2,3,4,5,6,12,13,14] ?_
      refine kE ?_
      refine PJ.blockNormal ?_
      obtain rfl := oi h909
      refine kW (L2 := [(2, .nl), (3, .int .i64 0), (4, .int .i64 0), (5, .vc 0), (6, .int .i64 ((nth x0 s459.2.1).Cat_)), (12, lsv encSt45 2 x0), (13, .int .i64 (x0.length : Int)), (14, .int .i64 s459.2.1)]) (H2 := [vecL encSt36 2 37 ((s459.2.2 ++ (([(⟨(nth x0 s459.2.1).Cat_, y851.1⟩ : St36)] : List St36))))]) hFH hFD [3] ?_
      exact kXl [2, 3, 4, 5, 6, 12, 13, 14]
   ·subst hs
    have h839 := joinX_inl h838
    refine kR ?_
    refine kC 2 [2,3,4,5,6,12,13,14] ?_
    refine kE ?_
    obtain rfl := oi h839
    exact kLN [2, 3, 4, 5, 6, 12, 13, 14]
  ·refine kF ?_
   refine K.exit 0 (by kernel_rfl) ?_
   refine PJ.passExit ?_
   obtain rfl := oi h764
   refine PJ.loopOut (fun e => nomatch e) (fun he911 => ?_)
   have h910 := congrArg some he911
   refine PJ.blockOut ?_
   obtain rfl := oi h910
   exact kXl [2, 3, 4, 5]
 ·subst hs
  have h458 := joinX_inl h457
  refine kSR ?_
  refine kC 4 [2,3,4] ?_
  refine kEN ?_
  refine kX ?_
  obtain rfl := oi h458
  refine PJ.wk (Wk.freeze 0 (n := s454.length) (k := 2) (e := 37) (cs := s454.flatMap encSt36) (by kernel_rfl)) ?_
  exact kZ hFn hFH hFD
structure St41 where
 I_ : List Int
 F_ : List Int
 W_ : Int
 C_ : Int
 deriving Inhabited, DecidableEq
def encSt41 (x : St41) : List SV := [lsv (encI .u8) 1 x.I_, lsv (encI .u8) 1 x.F_, .int .i64 x.W_, .int .i64 x.C_]
theorem encSt41_len (x : St41) : (encSt41 x).length = 4 := rfl
def rule_asks_s0 (x0 : St41) : Option (Unit) :=
 (some ())
theorem rule_asks_s0_ok {x0 : St41} {r : Unit} (h : rule_asks_s0 x0 = some r) : SC Tryd.prog 49 [.agg (encSt41 x0)] [] (.fn (.func 61) [] [.ptr 0 0]) [.box (encSt41 x0)] := by
 refine kFn (fn := Tryd.f49) (fun F hFn hFH hFD => ?_)
 unfold rule_asks_s0 at h
 refine kSR ?_
 refine kC 2 [1] ?_
 refine kEN ?_
 refine kSR ?_
 refine kC 2 [2] ?_
 refine kEN ?_
 refine kX ?_
 obtain rfl := oi h
 exact kV [0] hFn hFH hFD (v1 := .fn (.func 61) [] [.ptr 0 0])
def oper_figures (x0 : List Int) : Option (Bool) :=
 (Option.bind (loopN (fun (s45 : Int) => (bif (decide (s45 < (x0.length : Int))) then (bif inR s45 x0.length then (bif (decide ((nth x0 s45) > 9)) then (some (.inr (.inr false))) else (some (.inl (IntKind.wrap .i64 (s45 + 1))))) else none) else (some (.inr (.inl ()))))) big 0) (joinX fun (s40 : Unit) => (some true)))
theorem oper_figures_ok {x0 : List Int} {r : Bool} (h : oper_figures x0 = some r) : SC Tryd.prog 81 [lsv (encI .u8) 1 x0] [] (.bool r) [] := by
 refine kFn (fn := Tryd.f81) (fun F hFn hFH hFD => ?_)
 unfold oper_figures at h
 refine kSR ?_
 refine kC 1 [0,2] ?_
 refine kEN ?_
 obtain ⟨y41, hy42, h43⟩ := bindS h
 refine K.cutX (by kernel_rfl) (fun (s40 : Unit) => ([(2, .bool false)], [])) y41 ?_ (fun s40 hs => ?_)
 ·refine kSR ?_
  refine kC 3 [2,5,6,7] ?_
  refine kEN ?_
  refine kb 0 ?_
  refine kl (fun (s45 : Int) => ([(2, .bool false), (5, lsv (encI .u8) 1 x0), (6, .int .i64 (x0.length : Int)), (7, .int .i64 s45)], [])) hy42 [2, 5, 6, 7] (fun s45 x71 hs70 => ?_)
  refine kSR ?_
  refine kC 1 [2,5,6,7,8] ?_
  refine kEN ?_
  refine kS ?_
  refine kBJ 8 hs70 (fun h73 => ?_) (fun h74 => ?_)
  ·refine kT ?_
   refine kK ?_
   refine PJ.next ?_
   refine kS ?_
   refine kb 1 ?_
   refine kSR ?_
   obtain ⟨hm, h75⟩ := asrt h73
   refine kI 9 (encI_len .u8) hm ?_
   refine kC 2 [2,4,5,6,7] ?_
   refine kEN ?_
   refine kSR ?_
   refine kC 2 [2,5,6,7,12] ?_
   refine kEN ?_
   refine kBJ 12 h75 (fun h77 => ?_) (fun h78 => ?_)
   ·refine kT ?_
    refine kSR ?_
    refine kC 1 [2,5,6,7] ?_
    refine kEN ?_
    refine kX ?_
    refine PJ.blockRet ?_
    refine PJ.passRet ?_
    obtain rfl := oi h77
    refine PJ.loopOut (fun e => nomatch e) (fun he81 => ?_)
    have h79 := congrArg some he81
    refine PJ.blockRet ?_
    obtain rfl := oi h79
    have h80 := joinX_inr h43
    refine PJ.cutXr (fun e => nomatch e) ?_
    obtain rfl := oi h80
    exact kZ hFn hFH hFD
   ·refine kF ?_
    refine kK ?_
    refine PJ.blockNormal ?_
    refine PJ.next ?_
    refine kR ?_
    refine kC 2 [2,5,6,7] ?_
    refine kE ?_
    obtain rfl := oi h78
    exact kLN [2, 5, 6, 7]
  ·refine kF ?_
   refine K.exit 0 (by kernel_rfl) ?_
   refine PJ.passExit ?_
   obtain rfl := oi h74
   refine PJ.loopOut (fun e => nomatch e) (fun he83 => ?_)
   have h82 := congrArg some he83
   refine PJ.blockOut ?_
   obtain rfl := oi h82
   exact kXl [2]
 ·subst hs
  have h44 := joinX_inl h43
  refine kSR ?_
  refine kC 1 [2] ?_
  refine kEN ?_
  refine kX ?_
  obtain rfl := oi h44
  exact kZ hFn hFH hFD
def oper_shown (x0 : List Int) : Option (Int) :=
 (Option.bind (loopN (fun (s138 : Int) => (Option.bind (Option.bind (bif (decide (s138 > 0)) then (bif inR (IntKind.wrap .i64 (s138 - 1)) x0.length then (some ((decide (((nth x0 (IntKind.wrap .i64 (s138 - 1)))) = 0)))) else none) else (some false)) fun (s255 : Bool) => (bif s255 then (some (.inl ())) else (some (.inr (.inr s138))))) (joinX fun (s246 : Unit) => (some (.inl (IntKind.wrap .i64 (s138 - 1))))))) big (x0.length : Int)) fun (s133 : Int) => (some s133))
theorem oper_shown_ok {x0 : List Int} {r : Int} (h : oper_shown x0 = some r) : SC Tryd.prog 82 [lsv (encI .u8) 1 x0] [] (.int .i64 r) [] := by
 refine kFn (fn := Tryd.f82) (fun F hFn hFH hFD => ?_)
 unfold oper_shown at h
 refine kSR ?_
 refine kC 1 [0,2] ?_
 refine kEN ?_
 refine kSR ?_
 refine kC 3 [0,2,3] ?_
 refine kEN ?_
 obtain ⟨s133, hy135, h137⟩ := bindS h
 refine K.cutN (by kernel_rfl) (fun (s133 : Int) => ([(2, .int .i64 0), (3, .int .i64 s133)], [])) s133 ?_ ?_
 ·refine kb 0 ?_
  refine kl (fun (s138 : Int) => ([(0, lsv (encI .u8) 1 x0), (2, .int .i64 0), (3, .int .i64 s138)], [])) hy135 [0, 2, 3] (fun s138 x226 hs225 => ?_)
  obtain ⟨y247, hy248, h249⟩ := bindS hs225
  refine K.cutX (by kernel_rfl) (fun (s246 : Unit) => ([(0, lsv (encI .u8) 1 x0), (2, .int .i64 0), (3, .int .i64 s138)], [])) y247 ?_ (fun s246 hs => ?_)
  ·obtain ⟨s255, hy257, h259⟩ := bindS hy248
   refine K.cutN (by kernel_rfl) (fun (s255 : Bool) => ([(0, lsv (encI .u8) 1 x0), (2, .int .i64 0), (3, .int .i64 s138), (15, .bool s255)], [])) s255 ?_ ?_
   ·refine kR ?_
    refine kC 3 [0,2,3,8] ?_
    refine kB 8 hy257 (fun h261 => ?_) (fun h262 => ?_)
    ·refine kC 3 [0,2,3,8,9,11] ?_
     obtain ⟨hm, h263⟩ := asrt h261
     refine kI 12 (encI_len .u8) hm ?_
     refine kC 3 [0,2,3,15] ?_
     refine kE ?_
     obtain rfl := oi h263
     exact kN [0, 2, 3, 15]
    ·refine kC 7 [0,2,3,15] ?_
     refine kE ?_
     obtain rfl := oi h262
     exact kN [0, 2, 3, 15]
   ·refine kBJ 15 h259 (fun h265 => ?_) (fun h266 => ?_)
    ·refine kT ?_
     refine kK ?_
     obtain rfl := oi h265
     exact kXl [0, 2, 3]
    ·refine kF ?_
     refine K.exit 0 (by kernel_rfl) ?_
     obtain rfl := oi h266
     have h267 := joinX_inr h249
     refine PJ.cutXr (fun e => nomatch e) ?_
     obtain rfl := oi h267
     refine PJ.loopOut (fun e => nomatch e) (fun he269 => ?_)
     have h268 := congrArg some he269
     refine PJ.blockOut ?_
     obtain rfl := oi h268
     exact kN [2, 3]
  ·subst hs
   have h250 := joinX_inl h249
   refine kb 1 ?_
   refine kR ?_
   refine kC 3 [0,2,3] ?_
   refine kE ?_
   refine PJ.blockNormal ?_
   obtain rfl := oi h250
   exact kLN [0, 2, 3]
 ·refine kSR ?_
  refine kC 2 [2] ?_
  refine kEN ?_
  refine kX ?_
  obtain rfl := oi h137
  exact kZ hFn hFH hFD
def oper_Right (x0 : St41) : Option (Bool) :=
 (Option.bind (Option.bind (Option.bind (oper_figures x0.I_) fun y68 => (bif (!y68) then (some true) else (Option.bind (oper_figures x0.F_) fun y74 => (bif (!y74) then (some true) else (bif (decide ((x0.I_.length : Int) > 0)) then (bif inR 0 x0.I_.length then (some ((decide ((nth x0.I_ 0) = 0)))) else none) else (some false)))))) fun (s63 : Bool) => (bif s63 then (some (.inr false)) else (some (.inl ())))) (joinX fun (s42 : Unit) => (Option.bind (Option.bind (oper_shown x0.F_) fun y102 => (bif (decide (x0.W_ = y102)) then (bif (decide (x0.C_ ≥ 0)) then (some (decide (x0.C_ ≤ 1000))) else (some false)) else (some false))) fun (s97 : Bool) => (some s97))))
theorem oper_Right_ok {x0 : St41} {r : Bool} (h : oper_Right x0 = some r) : SC Tryd.prog 69 [.agg (encSt41 x0)] [] (.bool r) [] := by
 refine kFn (fn := Tryd.f69) (fun F hFn hFH hFD => ?_)
 unfold oper_Right at h
 refine kSR ?_
 refine kC 2 [1,2] ?_
 refine kEN ?_
 obtain ⟨y43, hy44, h45⟩ := bindS h
 refine K.cutX (by kernel_rfl) (fun (s42 : Unit) => ([(1, .ptr 0 0), (2, .bool false)], [.box (encSt41 x0)])) y43 ?_ (fun s42 hs => ?_)
 ·obtain ⟨s63, hy65, h67⟩ := bindS hy44
  refine K.cutN (by kernel_rfl) (fun (s63 : Bool) => ([(1, .ptr 0 0), (2, .bool false), (25, .bool s63)], [.box (encSt41 x0)])) s63 ?_ ?_
  ·refine kR ?_
   refine kC 2 [1,2,4] ?_
   obtain ⟨y68, hy69, h70⟩ := bindS hy65
   refine kA 5 (oper_figures_ok hy69) ?_
   refine kC 2 [1,2,7] ?_
   refine kB 7 h70 (fun h72 => ?_) (fun h73 => ?_)
   ·refine kC 18 [1,2,25] ?_
    refine kE ?_
    obtain rfl := oi h72
    exact kN [1, 2, 25]
   ·refine kC 2 [1,2,7,9] ?_
    obtain ⟨y74, hy75, h76⟩ := bindS h73
    refine kA 10 (oper_figures_ok hy75) ?_
    refine kC 3 [1,2,13] ?_
    refine kB 13 h76 (fun h78 => ?_) (fun h79 => ?_)
    ·refine kC 12 [1,2,25] ?_
     refine kE ?_
     obtain rfl := oi h78
     exact kN [1, 2, 25]
    ·refine kC 5 [1,2,13,18] ?_
     refine kB 18 h79 (fun h81 => ?_) (fun h82 => ?_)
     ·refine kC 2 [1,2,13,18,20] ?_
      obtain ⟨hm, h83⟩ := asrt h81
      refine kI 21 (encI_len .u8) hm ?_
      refine kC 4 [1,2,25] ?_
      refine kE ?_
      obtain rfl := oi h83
      exact kN [1, 2, 25]
     ·refine kC 7 [1,2,25] ?_
      refine kE ?_
      obtain rfl := oi h82
      exact kN [1, 2, 25]
  ·refine kBJ 25 h67 (fun h85 => ?_) (fun h86 => ?_)
   ·refine kT ?_
    refine kSR ?_
    refine kC 1 [1,2] ?_
    refine kEN ?_
    refine kX ?_
    obtain rfl := oi h85
    have h87 := joinX_inr h45
    refine PJ.cutXr (fun e => nomatch e) ?_
    obtain rfl := oi h87
    exact kZ hFn hFH hFD
   ·refine kF ?_
    refine kK ?_
    obtain rfl := oi h86
    exact kXl [1, 2]
 ·subst hs
  have h46 := joinX_inl h45
  obtain ⟨s97, hy99, h101⟩ := bindS h46
  refine K.cutN (by kernel_rfl) (fun (s97 : Bool) => ([(2, .bool s97)], [])) s97 ?_ ?_
  ·refine J.keep [1, 2] (L2 := [(1, .ptr 0 0), (2, .bool false)]) (by kernel_rfl) ?_
   refine K.draw (by kernel_rfl) (by kernel_rfl) (by kernel_rfl) (H2 := [.box (encSt41 x0), .res]) (by kernel_rfl) (n := 1) (by kernel_rfl) ?_
   refine kD 4 ?_
   obtain ⟨y102, hy103, h104⟩ := bindS hy99
   refine RJ.call0 (d := (some 30)) (f := 82) (args := [lsv (encI .u8) 1 x0.F_]) (v := .int .i64 y102) (tr2 := [([], []), ([0, 1], []), ([], []), ([0, 1], []), ([], [2, 3])]) (by kernel_rfl) (by kernel_rfl) (.cons (Le.refl _) .nil) (oper_shown_ok hy103) (by kernel_rfl) ?_
   refine kD 2 ?_
   refine kB 32 h104 (fun h106 => ?_) (fun h107 => ?_)
   ·refine kD 5 ?_
    refine kB 37 h106 (fun h109 => ?_) (fun h110 => ?_)
    ·refine kD 5 ?_
     refine kE ?_
     obtain rfl := oi h109
     refine kW (L2 := [(2, .bool (decide (x0.C_ ≤ 1000)))]) (H2 := []) hFH hFD [] ?_
     exact kN [2]
    ·refine kD 5 ?_
     refine kE ?_
     obtain rfl := oi h110
     refine kW (L2 := [(2, .bool false)]) (H2 := []) hFH hFD [] ?_
     exact kN [2]
   ·refine kD 10 ?_
    refine kE ?_
    obtain rfl := oi h107
    refine kW (L2 := [(2, .bool false)]) (H2 := []) hFH hFD [] ?_
    exact kN [2]
  ·refine kX ?_
   obtain rfl := oi h101
   exact kZ hFn hFH hFD
structure St111 where
 Oper_ : St41
 deriving Inhabited, DecidableEq
def encSt111 (x : St111) : List SV := [lsv (encI .u8) 1 x.Oper_.I_, lsv (encI .u8) 1 x.Oper_.F_, .int .i64 x.Oper_.W_, .int .i64 x.Oper_.C_]
theorem encSt111_len (x : St111) : (encSt111 x).length = 4 := rfl
def oper_asked__operands_s0 (x0 : St111) : Option (Unit) :=
 (some ())
theorem oper_asked__operands_s0_ok {x0 : St111} {r : Unit} (h : oper_asked__operands_s0 x0 = some r) : SC Tryd.prog 70 [.agg (encSt111 x0)] [] (.mp 0) [.map [(.int .u8 110, .fn (.func 83) [.agg (encSt111 x0)] []), (.int .u8 105, .fn (.func 84) [.agg (encSt111 x0)] []), (.int .u8 118, .fn (.func 85) [.agg (encSt111 x0)] []), (.int .u8 119, .fn (.func 86) [.agg (encSt111 x0)] []), (.int .u8 102, .fn (.func 87) [.agg (encSt111 x0)] []), (.int .u8 116, .fn (.func 88) [.agg (encSt111 x0)] []), (.int .u8 99, .fn (.func 89) [.agg (encSt111 x0)] []), (.int .u8 101, .fn (.func 89) [.agg (encSt111 x0)] [])]] := by
 refine kFn (fn := Tryd.f70) (fun F hFn hFH hFD => ?_)
 unfold oper_asked__operands_s0 at h
 refine kSR ?_
 refine kC 2 [1] ?_
 refine kEN ?_
 refine kSR ?_
 refine kC 27 [2] ?_
 refine kEN ?_
 refine kX ?_
 obtain rfl := oi h
 exact kV [1] hFn hFH hFD (v1 := .mp 1)
def slices_Clone (x0 : List Int) : Option (List Int) :=
 (bif (Nat.beq x0.length 0) then agree (some ([] : List Int)) (bif room x0.length then (some x0) else none) else (bif room x0.length then (some x0) else none))
theorem slices_Clone_ok {x0 : List Int} {r : List Int} (h : slices_Clone x0 = some r) : SC Tryd.prog 97 [lsv (encI .u8) 1 x0] [] (lsv (encI .u8) 1 r) [] := by
 refine kFn (fn := Tryd.f97) (fun F hFn hFH hFD => ?_)
 unfold slices_Clone at h
 refine kSR ?_
 refine kC 1 [0,2] ?_
 refine kEN ?_
 refine kS ?_
 refine kSR ?_
 refine kC 1 [0,2,3] ?_
 refine RJ.isNil (d := 4) (n := x0.length) (eq := true) (by kernel_rfl) (fun b hb3 => ?_)
 cases b
 ·have h2 := agreeF h
  refine kEN ?_
  refine kF ?_
  refine kK ?_
  refine PJ.next ?_
  refine kSR ?_
  refine kC 2 [2,5,6] ?_
  obtain ⟨hm, h4⟩ := asrt h2
  refine RJ.rel (d := (some 7)) (ef := ⟨.vc 0, [], [(0, .vec x0.length 1 5 (x0.flatMap (encI .u8)))]⟩) (ef' := ⟨.vc 0, [], [(0, .vec x0.length 1 5 (x0.flatMap (encI .u8)))]⟩) (c := roomB x0.length) (tr2 := []) (H2 := [vecL (encI .u8) 1 5 x0]) (by kernel_rfl) (roomB_of_room hm) (fun hc => rfl) (by kernel_rfl) ?_
  refine kC 1 [2] ?_
  refine kEN ?_
  refine kX ?_
  obtain rfl := oi h4
  refine PJ.wk (Wk.freeze 0 (n := x0.length) (k := 1) (e := 5) (cs := x0.flatMap (encI .u8)) (by kernel_rfl)) ?_
  exact kZ hFn hFH hFD
 ·have h1 := agreeT (by rw [hb3 rfl]; rfl) h
  refine kEN ?_
  refine kT ?_
  refine kSR ?_
  refine kC 1 [0,2] ?_
  refine kEN ?_
  refine kX ?_
  refine PJ.passRet ?_
  obtain rfl := oi h1
  refine PJ.res (v1 := .nl) (Le.nl _) ?_
  exact kZ hFn hFH hFD
def oper_asked__number (x0 : St111) : Option ((List Int) × Bool) :=
 (bif (decide (x0.Oper_.W_ > 0)) then (some (([] : List Int), false)) else (Option.bind (slices_Clone x0.Oper_.I_) fun y4 => (some (y4, true))))
theorem oper_asked__number_ok {x0 : St111} {r : (List Int) × Bool} (h : oper_asked__number x0 = some r) : SC Tryd.prog 83 [.agg (encSt111 x0)] [] (.tup [lsv (encI .u8) 1 r.1, .bool r.2]) [] := by
 refine kFn (fn := Tryd.f83) (fun F hFn hFH hFD => ?_)
 unfold oper_asked__number at h
 refine kSR ?_
 refine kC 3 [1,2,3] ?_
 refine kEN ?_
 refine kS ?_
 refine kSR ?_
 refine kC 4 [1,2,3,7] ?_
 refine kEN ?_
 refine kBJ 7 h (fun h2 => ?_) (fun h3 => ?_)
 ·refine kT ?_
  refine kSR ?_
  refine kC 2 [1,2,3] ?_
  refine kEN ?_
  refine kX ?_
  refine PJ.passRet ?_
  obtain rfl := oi h2
  refine PJ.res (v1 := .tup [.nl, .bool false]) (Le.tup (.cons (Le.nl _) (.cons (Le.refl _) .nil))) ?_
  exact kZ hFn hFH hFD
 ·refine kF ?_
  refine kK ?_
  refine PJ.next ?_
  refine kSR ?_
  refine kC 3 [2,3,10] ?_
  obtain ⟨y4, hy5, h6⟩ := bindS h3
  refine kA 11 (slices_Clone_ok hy5) ?_
  refine kC 2 [2,3] ?_
  refine kEN ?_
  refine kX ?_
  obtain rfl := oi h6
  exact kZ hFn hFH hFD
def oper_asked__whole (x0 : St111) : Option ((List Int) × Bool) :=
 (Option.bind (slices_Clone x0.Oper_.I_) fun y1 => (some (y1, true)))
theorem oper_asked__whole_ok {x0 : St111} {r : (List Int) × Bool} (h : oper_asked__whole x0 = some r) : SC Tryd.prog 84 [.agg (encSt111 x0)] [] (.tup [lsv (encI .u8) 1 r.1, .bool r.2]) [] := by
 refine kFn (fn := Tryd.f84) (fun F hFn hFH hFD => ?_)
 unfold oper_asked__whole at h
 refine kSR ?_
 refine kC 3 [1,2,3] ?_
 refine kEN ?_
 refine kSR ?_
 refine kC 3 [2,3,6] ?_
 obtain ⟨y1, hy2, h3⟩ := bindS h
 refine kA 7 (slices_Clone_ok hy2) ?_
 refine kC 2 [2,3] ?_
 refine kEN ?_
 refine kX ?_
 obtain rfl := oi h3
 exact kZ hFn hFH hFD
end Go.Proofs.YteaokhdkocddcaaDoor
