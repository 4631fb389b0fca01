/-
  What the functions of this program come to, as functions of natives, each with the proof that it does. No conditions.
-/
import Derived.Test.YtcapcgbamehojaaGreatDoorProg
import Derived.Test.YtcapcgbamehojaaGreatDoorSySL
import Derived.Test.YtcapcgbamehojaaGreatDoorSyPV
import Derived.Test.YtcapcgbamehojaaGreatDoorSyCC
import Derived.Test.YtcapcgbamehojaaGreatDoorSyKM
import Derived.Test.YtcapcgbamehojaaGreatDoorSyFS
import Derived.Test.YtcapcgbamehojaaGreatDoorSyGL
import Derived.Test.YtcapcgbamehojaaGreatDoorSySC
import Derived.Shelf.Strings.Search1
import Derived.Shelf.Lays
import Derived.Lib.ItoaLen
namespace Go.Proofs.YtcapcgbamehojaaGreatDoor
open Go Go.Sy Go.RowKit
set_option linter.unusedVariables false
set_option linter.unusedSimpArgs false
set_option maxRecDepth 100000
set_option maxHeartbeats 4000000
abbrev iL (x : Int) : SV := .int .i64 x
abbrev iM (x : Int) : SV := .int .i32 x
abbrev lB (x : List Int) : SV := lsv (encI .u8) 1 x
abbrev lT (x : List (List UInt8)) : SV := lsv encT 1 x
abbrev lI (x : List Int) : SV := lsv (encI .i64) 1 x
abbrev lR (x : List Int) : SV := lsv (encI .i32) 1 x
abbrev q12 (a : List UInt8) (b0 b1 b2 b3 b4 b5 b6 : Int) (c0 c1 c2 c3 : List UInt8) (r : List SV) : List SV := .str a :: .int .i32 b0 :: .int .i32 b1 :: .int .i32 b2 :: .int .i32 b3 :: .int .i32 b4 :: .int .i32 b5 :: .int .i32 b6 :: .str c0 :: .str c1 :: .str c2 :: .str c3 :: r
def gtabs : Nat → Option (List SV)
 | 0 => some [.int .i32 48, .int .i32 1632, .int .i32 1776, .int .i32 1984, .int .i32 2406, .int .i32 2534, .int .i32 2662, .int .i32 2790, .int .i32 2918, .int .i32 3046, .int .i32 3174, .int .i32 3302, .int .i32 3430, .int .i32 3664, .int .i32 3792, .int .i32 3872, .int .i32 6112, .int .i32 6160, .int .i32 65296, .int .i32 120782]
 | 2 => some [.int .u64 1, .int .u64 10, .int .u64 100, .int .u64 1000, .int .u64 10000, .int .u64 100000, .int .u64 1000000, .int .u64 10000000, .int .u64 100000000, .int .u64 1000000000, .int .u64 10000000000, .int .u64 100000000000, .int .u64 1000000000000, .int .u64 10000000000000, .int .u64 100000000000000, .int .u64 1000000000000000, .int .u64 10000000000000000, .int .u64 100000000000000000, .int .u64 1000000000000000000, .int .u64 10000000000000000000]
 | 3 => some [.int .u8 0, .int .u8 1, .int .u8 28, .int .u8 2, .int .u8 29, .int .u8 14, .int .u8 24, .int .u8 3, .int .u8 30, .int .u8 22, .int .u8 20, .int .u8 15, .int .u8 25, .int .u8 17, .int .u8 4, .int .u8 8, .int .u8 31, .int .u8 27, .int .u8 13, .int .u8 23, .int .u8 21, .int .u8 19, .int .u8 16, .int .u8 7, .int .u8 26, .int .u8 12, .int .u8 18, .int .u8 6, .int .u8 11, .int .u8 5, .int .u8 10, .int .u8 9]
 | 4 => some [.int .u8 0, .int .u8 1, .int .u8 56, .int .u8 2, .int .u8 57, .int .u8 49, .int .u8 28, .int .u8 3, .int .u8 61, .int .u8 58, .int .u8 42, .int .u8 50, .int .u8 38, .int .u8 29, .int .u8 17, .int .u8 4, .int .u8 62, .int .u8 47, .int .u8 59, .int .u8 36, .int .u8 45, .int .u8 43, .int .u8 51, .int .u8 22, .int .u8 53, .int .u8 39, .int .u8 33, .int .u8 30, .int .u8 24, .int .u8 18, .int .u8 12, .int .u8 5, .int .u8 63, .int .u8 55, .int .u8 48, .int .u8 27, .int .u8 60, .int .u8 41, .int .u8 37, .int .u8 16, .int .u8 46, .int .u8 35, .int .u8 44, .int .u8 21, .int .u8 52, .int .u8 32, .int .u8 23, .int .u8 11, .int .u8 54, .int .u8 26, .int .u8 40, .int .u8 15, .int .u8 34, .int .u8 20, .int .u8 31, .int .u8 10, .int .u8 25, .int .u8 14, .int .u8 19, .int .u8 9, .int .u8 13, .int .u8 8, .int .u8 7, .int .u8 6]
 | _ => none
instance : Inhabited GT := ⟨⟨gtabs⟩⟩
structure St22 where
 Zero_ : Int
 Dec_ : Int
 Group_ : Int
 Minus_ : Int
 Plus_ : Int
 Percent_ : Int
 Exp_ : Int
 deriving Inhabited, DecidableEq
def encSt22 (x : St22) : List SV := [.int .i32 x.Zero_, .int .i32 x.Dec_, .int .i32 x.Group_, .int .i32 x.Minus_, .int .i32 x.Plus_, .int .i32 x.Percent_, .int .i32 x.Exp_]
theorem encSt22_len (x : St22) : (encSt22 x).length = 7 := rfl
structure St42 where
 a0_ : List UInt8
 a1_ : List UInt8
 a2_ : List UInt8
 a3_ : List UInt8
 deriving Inhabited, DecidableEq
def encSt42 (x : St42) : List SV := [.str x.a0_, .str x.a1_, .str x.a2_, .str x.a3_]
theorem encSt42_len (x : St42) : (encSt42 x).length = 4 := rfl
structure St91 where
 Cat_ : Int
 Text_ : List UInt8
 deriving Inhabited, DecidableEq
def encSt91 (x : St91) : List SV := [.int .i64 x.Cat_, .str x.Text_]
theorem encSt91_len (x : St91) : (encSt91 x).length = 2 := rfl
structure St58 where
 Code_ : List UInt8
 Sign_ : List UInt8
 Digits_ : Int
 deriving Inhabited, DecidableEq
def encSt58 (x : St58) : List SV := [.str x.Code_, .str x.Sign_, .int .i64 x.Digits_]
theorem encSt58_len (x : St58) : (encSt58 x).length = 3 := rfl
structure St25 where
 Mag_ : Int
 Cat_ : Int
 Pat_ : List UInt8
 deriving Inhabited, DecidableEq
def encSt25 (x : St25) : List SV := [.int .i64 x.Mag_, .int .i64 x.Cat_, .str x.Pat_]
theorem encSt25_len (x : St25) : (encSt25 x).length = 3 := rfl
structure St46 where
 Tag_ : List UInt8
 S_ : St22
 Pats_ : St42
 Rules_ : List St91
 Curs_ : List St58
 Comps_ : List St25
 deriving Inhabited, DecidableEq
def encSt46 (x : St46) : List SV := [.str x.Tag_, .int .i32 x.S_.Zero_, .int .i32 x.S_.Dec_, .int .i32 x.S_.Group_, .int .i32 x.S_.Minus_, .int .i32 x.S_.Plus_, .int .i32 x.S_.Percent_, .int .i32 x.S_.Exp_, .str x.Pats_.a0_, .str x.Pats_.a1_, .str x.Pats_.a2_, .str x.Pats_.a3_, lsv encSt91 2 x.Rules_, lsv encSt58 3 x.Curs_, lsv encSt25 3 x.Comps_]
theorem encSt46_len (x : St46) : (encSt46 x).length = 15 := rfl
structure St70 where
 L_ : St46
 I_ : Int
 K_ : Int
 A_ : Int
 B_ : Int
 deriving Inhabited, DecidableEq
def encSt70 (x : St70) : List SV := [.str x.L_.Tag_, .int .i32 x.L_.S_.Zero_, .int .i32 x.L_.S_.Dec_, .int .i32 x.L_.S_.Group_, .int .i32 x.L_.S_.Minus_, .int .i32 x.L_.S_.Plus_, .int .i32 x.L_.S_.Percent_, .int .i32 x.L_.S_.Exp_, .str x.L_.Pats_.a0_, .str x.L_.Pats_.a1_, .str x.L_.Pats_.a2_, .str x.L_.Pats_.a3_, lsv encSt91 2 x.L_.Rules_, lsv encSt58 3 x.L_.Curs_, lsv encSt25 3 x.L_.Comps_, .int .i64 x.I_, .int .i64 x.K_, .int .u8 x.A_, .int .u8 x.B_]
theorem encSt70_len (x : St70) : (encSt70 x).length = 19 := rfl
def exerguelaw15_latin  : Option (St22) :=
 (some (⟨48, 46, 44, 45, 43, 37, 69⟩ : St22))
theorem exerguelaw15_latin_ok  {r : St22} (h : exerguelaw15_latin = some r) : SC Tryz.prog 32 [] [] (.agg (encSt22 r)) [] := by
 refine kFn (fn := Tryz.f32) (fun F hFn hFH hFD => ?_)
 unfold exerguelaw15_latin at h
 exact kq (kq (kX (by obtain rfl := oi h; exact kZ hFn hFH hFD)))
structure St106 where
 Kind_ : Int
 R_ : Int
 deriving Inhabited, DecidableEq
def encSt106 (x : St106) : List SV := [.int .i64 x.Kind_, .int .i32 x.R_]
theorem encSt106_len (x : St106) : (encSt106 x).length = 2 := rfl
structure St32 where
 Pre_ : List St106
 Suf_ : List St106
 NPre_ : List St106
 NSuf_ : List St106
 Neg_ : Bool
 Hash_ : Int
 MinInt_ : Int
 MinFrac_ : Int
 MaxFrac_ : Int
 G1_ : Int
 G2_ : Int
 MinSig_ : Int
 MaxSig_ : Int
 Exp_ : Int
 ExpPlus_ : Bool
 Pad_ : Int
 PadAt_ : Int
 deriving Inhabited, DecidableEq
def encSt32 (x : St32) : List SV := [lsv encSt106 2 x.Pre_, lsv encSt106 2 x.Suf_, lsv encSt106 2 x.NPre_, lsv encSt106 2 x.NSuf_, .bool x.Neg_, .int .i64 x.Hash_, .int .i64 x.MinInt_, .int .i64 x.MinFrac_, .int .i64 x.MaxFrac_, .int .i64 x.G1_, .int .i64 x.G2_, .int .i64 x.MinSig_, .int .i64 x.MaxSig_, .int .i64 x.Exp_, .bool x.ExpPlus_, .int .i32 x.Pad_, .int .i64 x.PadAt_]
theorem encSt32_len (x : St32) : (encSt32 x).length = 17 := rfl
def utf_promised (x0 : Int) : Option (Int) :=
 (bif (decide (x0 < 128)) then (some 1) else (bif (decide ((Int.fdiv x0 32) = 6)) then (some 2) else (bif (decide ((Int.fdiv x0 16) = 14)) then (some 3) else (bif (decide ((Int.fdiv x0 8) = 30)) then (some 4) else (some 0)))))
theorem utf_promised_ok {x0 r : Int} (h : utf_promised x0 = some r) : SC Tryz.prog 158 [.int .u8 x0] [] (iL r) [] := by
 refine kFn (fn := Tryz.f158) (fun F hFn hFH hFD => ?_)
 unfold utf_promised at h
 exact kq (kS (kb 0 (kq (kBT 3 h (fun h0 => kq (kXp (by obtain rfl := oi h0; exact kZ hFn hFH hFD))) (fun h1 => kq (kBT 6 h1 (fun h2 => kq (kXp (by obtain rfl := oi h2; exact kZ hFn hFH hFD))) (fun h3 => kq (kBT 10 h3 (fun h4 => kq (kXp (by obtain rfl := oi h4; exact kZ hFn hFH hFD))) (fun h5 => kq (kBT 14 h5 (fun h6 => kq (kXp (by obtain rfl := oi h6; exact kZ hFn hFH hFD))) (fun h7 => kKn (kq (kX (by obtain rfl := oi h7; exact kZ hFn hFH hFD))))))))))))))
def utf_mark (x0 : Int) : Option (Int) :=
 (bif (decide (x0 = 2)) then (some 192) else (bif (decide (x0 = 3)) then (some 224) else (bif (decide (x0 = 4)) then (some 240) else (some 0))))
theorem utf_mark_ok {x0 r : Int} (h : utf_mark x0 = some r) : SC Tryz.prog 159 [iL x0] [] (.int .u8 r) [] := by
 refine kFn (fn := Tryz.f159) (fun F hFn hFH hFD => ?_)
 unfold utf_mark at h
 exact kq (kS (kq (kb 0 (kq (kBT 4 h (fun h0 => kq (kXp (by obtain rfl := oi h0; exact kZ hFn hFH hFD))) (fun h1 => kq (kBT 6 h1 (fun h2 => kq (kXp (by obtain rfl := oi h2; exact kZ hFn hFH hFD))) (fun h3 => kq (kBT 8 h3 (fun h4 => kq (kXp (by obtain rfl := oi h4; exact kZ hFn hFH hFD))) (fun h5 => kKn (kq (kX (by obtain rfl := oi h5; exact kZ hFn hFH hFD)))))))))))))
def utf_Is (x0 : Int) : Option (Bool) :=
 (Option.bind (bif (decide (x0 ≥ 0)) then (bif (decide (x0 ≤ 1114111)) then (bif (decide (x0 < 55296)) then (some true) else (some (decide (x0 > 57343)))) else (some false)) else (some false)) fun (s0 : Bool) => (some s0))
theorem utf_Is_ok {x0 : Int} {r : Bool} (h : utf_Is x0 = some r) : SC Tryz.prog 150 [iM x0] [] (.bool r) [] := by
 refine kFn (fn := Tryz.f150) (fun F hFn hFH hFD => ?_)
 unfold utf_Is at h
 exact kq (kcN h (fun (s0 : Bool) => ([(2, .bool s0)], [])) (fun s0 hy0 => km 3 (kB 5 hy0 (fun h1 => kc 4 (kB 9 h1 (fun h3 => kc 3 (kB 12 h3 (fun h5 => ke 5 (kNo h5 [2])) (fun h6 => ke 5 (kNo h6 [2])))) (fun h4 => ke 8 (kNo h4 [2])))) (fun h2 => ke 12 (kNo h2 [2])))) (fun s0 h0 => kX (by obtain rfl := oi h0; exact kZ hFn hFH hFD)))
def utf_Size (x0 : Int) : Option (Int) :=
 (Option.bind (utf_Is x0) fun y0 => (bif (!y0) then (some 0) else (bif (decide (x0 < 128)) then (some 1) else (bif (decide (x0 < 2048)) then (some 2) else (bif (decide (x0 < 65536)) then (some 3) else (some 4))))))
theorem utf_Size_ok {x0 r : Int} (h : utf_Size x0 = some r) : SC Tryz.prog 160 [iM x0] [] (iL r) [] := by
 refine kFn (fn := Tryz.f160) (fun F hFn hFH hFD => ?_)
 unfold utf_Size at h
 exact kq (kS (kb 0 (kn 1 (kAb 5 h (fun _ => utf_Is_ok) (fun y0 h0 => kr 2 (kBT 3 h0 (fun h1 => kq (kXp (by obtain rfl := oi h1; exact kZ hFn hFH hFD))) (fun h2 => kq (kBT 7 h2 (fun h3 => kq (kXp (by obtain rfl := oi h3; exact kZ hFn hFH hFD))) (fun h4 => kq (kBT 10 h4 (fun h5 => kq (kXp (by obtain rfl := oi h5; exact kZ hFn hFH hFD))) (fun h6 => kq (kBT 13 h6 (fun h7 => kq (kXp (by obtain rfl := oi h7; exact kZ hFn hFH hFD))) (fun h8 => kKn (kq (kX (by obtain rfl := oi h8; exact kZ hFn hFH hFD))))))))))))))))
def utf_first (x0 : List Int) : Option (Int × Int) :=
 (bif inR 0 x0.length then (Option.bind (utf_promised (nth x0 0)) fun y0 => (Option.bind (Option.bind (bif (decide (y0 = 0)) then (some true) else (some ((decide (y0 > (x0.length : Int)))))) fun (s1 : Bool) => (bif s1 then (some (.inr (0, 0))) else (some (.inl ())))) (joinX fun (s3 : Unit) => (bif inR 0 x0.length then (Option.bind (utf_mark y0) fun y1 => (Option.bind (bif inS 1 y0 x0.length then (loopN (fun (s0 : Int × Int) => (bif (decide (s0.2 < ((cut x0 1 y0).length : Int))) then (bif inR s0.2 (cut x0 1 y0).length then (bif (decide (¬ ((bits .andNot .u8 (nth (cut x0 1 y0) s0.2) 63)) = 128)) then (some (.inr (.inr (0, 0)))) else (some (.inl ((bits .or .i32 (IntKind.wrap .i32 (s0.1 * 64)) ((IntKind.wrap .i32 ((bits .and .u8 (nth (cut x0 1 y0) s0.2) 63))))), (IntKind.wrap .i64 (s0.2 + 1)))))) else none) else (some (.inr (.inl s0.1))))) big ((IntKind.wrap .i32 (bits .andNot .u8 (nth x0 0) y1)), 0)) else none) (joinX fun (s2 : Int) => (Option.bind (utf_Size s2) fun y2 => (bif (decide (¬ y2 = y0)) then (some (0, 0)) else (some (s2, y0))))))) else none)))) else none)
theorem utf_first_ok {x0 : List Int} {r : Int × Int} (h : utf_first x0 = some r) : SC Tryz.prog 133 [lB x0] [] (.tup [iM r.1, iL r.2]) [] := by
 refine kFn (fn := Tryz.f133) (fun F hFn hFH hFD => ?_)
 unfold utf_first at h
 refine kq (kn 1 (kIb 9 (encI_len .u8) h (fun h0 => kc 1 (kAb 11 h0 (fun _ => utf_promised_ok) (fun y0 h1 => kr 1 (kcX h1 (fun (s3 : Unit) => ([(0, lB x0), (2, iM 0), (3, iL 0), (4, iL y0)], [])) (fun y3 hy0 h2 => ?_) (fun s3 h3 => ?_)))))))
 ·exact kcN hy0 (fun (s1 : Bool) => ([(0, lB x0), (2, iM 0), (3, iL 0), (4, iL y0), (19, .bool s1)], [])) (fun s1 hy1 => km 3 (kB 14 hy1 (fun h5 => ke 5 (kNo h5 [0, 2, 3, 4, 19])) (fun h6 => ke 5 (kNo h6 [0, 2, 3, 4, 19])))) (fun s1 h4 => kBT 19 h4 (fun h7 => kq (kX (kCx h7 h2 (fun h9 => by obtain rfl := oi h9; exact kZ hFn hFH hFD)))) (fun h8 => kK (kXo h8 [0, 2, 3, 4])))
 ·refine kS (kDr (kD 1 ?_))
  obtain ⟨hm, h10⟩ := asrt h3
  refine kJ 21 (tr2 := [([], []), ([], [])]) (encI_len .u8) hm (kD 2 ?_)
  obtain ⟨y1, hy2, h11⟩ := bindS h10
  refine RJ.call0 (d := (some 24)) (f := 159) (args := [iL y0]) (v := .int .u8 y1) (tr2 := [([], []), ([], []), ([], []), ([], []), ([], [0, 1])]) (by kernel_rfl) (by kernel_rfl) (.cons (Le.refl _) .nil) (utf_mark_ok hy2) (by kernel_rfl) (kD 3 (kEN (kcX h11 (fun (s2 : Int) => ([(2, iM 0), (3, iL 0), (4, iL y0), (5, iM s2)], [])) (fun y4 hy3 h12 => ?_) (fun s2 h13 => ?_))))
  ·refine kn 2 ?_
   obtain ⟨hm, h14⟩ := asrt hy3
   exact RJ.rel (d := (some 29)) (ef := ⟨.lst ((y0 : Int).toNat - (1 : Int).toNat) 1 (((x0.flatMap (encI .u8)).take ((y0 : Int).toNat * 1)).drop ((1 : Int).toNat * 1)), [], []⟩) (ef' := ⟨.lst (cut x0 1 y0).length 1 ((cut x0 1 y0).flatMap (encI .u8)), [], []⟩) (c := inS 1 y0 x0.length) (tr2 := []) (H2 := [.res]) (by kernel_rfl) hm (fun hc => N.slice (encI_len .u8) hc) (by kernel_rfl) (kr 2 (kb 0 (J.wk (Wk.sel (L2 := [(2, iM 0), (3, iL 0), (4, iL y0), (5, iM ((IntKind.wrap .i32 (bits .andNot .u8 (nth x0 0) y1)))), (29, lB (cut x0 1 y0)), (30, iL ((cut x0 1 y0).length : Int)), (31, iL 0)]) (H2 := []) 0 (by rw [hFH]; rfl) hFD [] (by kernel_rfl) (by kernel_rfl) (by decide) (by kernel_rfl) (by kernel_rfl) (by kernel_rfl) (by kernel_rfl)) (kl (fun (s0 : Int × Int) => ([(2, iM 0), (3, iL 0), (4, iL y0), (5, iM s0.1), (29, lB (cut x0 1 y0)), (30, iL ((cut x0 1 y0).length : Int)), (31, iL s0.2)], [])) h14 [2, 3, 4, 5, 29, 30, 31] (fun s0 x116 hs0 => kq (kS (kBT 32 hs0 (fun h15 => kKN (kS (kb 1 (kSR (kIb 33 (encI_len .u8) h15 (fun h17 => kr 2 (kS (kq (kBT 37 h17 (fun h18 => kq (kX (PJ.passRet (PJ.blockRet (PJ.passRet (kLx h18 (fun h20 => PJ.blockRet (kCx h20 h12 (fun h21 => by obtain rfl := oi h21; exact kZ hFn hFH hFD))))))))) (fun h19 => kKN (kM (PJ.blockNormal (PJ.next (kM (kLo h19 [2, 3, 4, 5, 29, 30, 31]))))))))))))))) (fun h16 => kEp 0 (kLx h16 (fun h22 => PJ.blockOut (kXo h22 [2, 3, 4, 5])))))))))))
  ·exact kS (kn 1 (kAb 46 h13 (fun _ => utf_Size_ok) (fun y2 h23 => kr 2 (kBT 48 h23 (fun h24 => kq (kX (PJ.passRet (by obtain rfl := oi h24; exact kZ hFn hFH hFD)))) (fun h25 => kKN (kq (kX (by obtain rfl := oi h25; exact kZ hFn hFH hFD))))))))
def utf_Decode (x0 : List Int) : Option ((List Int) × Int × Int) :=
 (Option.bind (loopN (fun (s0 : Int × (List Int)) => (bif (decide (s0.1 < (x0.length : Int))) then (bif inS s0.1 (x0.length : Int) x0.length then (Option.bind (utf_first (cut x0 s0.1 (x0.length : Int))) fun y0 => (bif (decide (y0.2 = 0)) then (some (.inr (.inr (([] : List Int), s0.1, 3)))) else (bif room (s0.2.length + ([y0.1] : List Int).length) then (some (.inl ((IntKind.wrap .i64 (s0.1 + y0.2)), (s0.2 ++ ([y0.1] : List Int))))) else none))) else none) else (some (.inr (.inl s0.2))))) big (0, ([] : List Int))) (joinX fun (s1 : (List Int)) => (some (s1, 0, 0))))
theorem utf_Decode_ok {x0 : List Int} {r : (List Int) × Int × Int} (h : utf_Decode x0 = some r) : SC Tryz.prog 102 [lB x0] [] (.tup [lR r.1, iL r.2.1, iL r.2.2]) [] := by
 refine kFn (fn := Tryz.f102) (fun F hFn hFH hFD => ?_)
 unfold utf_Decode at h
 refine kq (kq (kcX h (fun (s1 : (List Int)) => ([(2, .nl), (3, iL 0), (4, iL 0), (5, .vc 0)], [vecL (encI .i32) 1 21 s1])) (fun y1 hy0 h0 => ?_) (fun s1 h1 => ?_)))
 ·refine kq (kb 0 (J.wk (Wk.viv 5 1 21 (by kernel_rfl)) (kl (fun (s0 : Int × (List Int)) => ([(0, lB x0), (2, .nl), (3, iL 0), (4, iL 0), (5, .vc 0), (6, iL s0.1)], [vecL (encI .i32) 1 21 s0.2])) hy0 [0, 2, 3, 4, 5, 6] (fun s0 x91 hs0 => kS (kq (kBT 12 hs0 (fun h2 => ?_) (fun h3 => ?_)))))))
  ·refine kKN (kb 1 (kn 2 ?_))
   obtain ⟨hm, h4⟩ := asrt h2
   exact RJ.rel (d := (some 16)) (ef := ⟨.lst (((x0.length : Int) : Int).toNat - (s0.1 : Int).toNat) 1 (((x0.flatMap (encI .u8)).take (((x0.length : Int) : Int).toNat * 1)).drop ((s0.1 : Int).toNat * 1)), [], []⟩) (ef' := ⟨.lst (cut x0 s0.1 (x0.length : Int)).length 1 ((cut x0 s0.1 (x0.length : Int)).flatMap (encI .u8)), [], []⟩) (c := inS s0.1 (x0.length : Int) x0.length) (tr2 := []) (H2 := [vecL (encI .i32) 1 21 s0.2]) (by kernel_rfl) hm (fun hc => N.slice (encI_len .u8) hc) (by kernel_rfl) (kAb 17 h4 (fun _ => utf_first_ok) (fun y0 h5 => kr 5 (kS (kq (kBT 21 h5 (fun h6 => kq (kX (PJ.passRet (PJ.blockRet (kLx h6 (fun h8 => PJ.blockRet (kCx h8 h0 (fun h9 => by obtain rfl := oi h9; exact PJ.res (v1 := .tup [.nl, iL s0.1, iL 3]) (Le.tup (.cons (Le.nl _) (.cons (Le.refl _) (.cons (Le.refl _) .nil)))) (kZ hFn hFH hFD))))))))) (fun h7 => kKN (kn 3 (kAp 26 0 2 1 21 [0, 1] (encI .i32) h7 (fun h10 => kr 1 (kM (PJ.blockNormal (kLW h10 hFH hFD [2]))))))))))))
  ·exact kEp 0 (kLx h3 (fun h11 => PJ.blockOut (kXo h11 [2, 3, 4, 5])))
 ·exact kq (kX (by obtain rfl := oi h1; exact PJ.wk (Wk.freeze 0 (n := s1.length) (k := 1) (e := 21) (cs := s1.flatMap (encI .i32)) (by kernel_rfl)) (kZ hFn hFH hFD)))
def pat_signs_s0  : Option (Unit) :=
 (some ())
theorem pat_signs_s0_ok  {r : Unit} (h : pat_signs_s0 = some r) : SC Tryz.prog 142 [] [] (.mp 0) [.map [(iM 45, iL 1), (iM 43, iL 2), (iM 37, iL 3), (iM 164, iL 4)]] := by
 refine kFn (fn := Tryz.f142) (fun F hFn hFH hFD => ?_)
 unfold pat_signs_s0 at h
 exact kq (kq (kX (by obtain rfl := oi h; exact kRV [0] (.inr rfl) hFn hFH hFD)))
def pat_reader__is_s0 (x0 x1 : Int) (x2 : List Int) (x3 x4 x5 x6 x7 x8 : Int) : Option (Bool) :=
 (Option.bind (bif (decide ((IntKind.wrap .i64 (x3 + x1)) < (x2.length : Int))) then (bif inR (IntKind.wrap .i64 (x3 + x1)) x2.length then (some ((decide (((nth x2 (IntKind.wrap .i64 (x3 + x1)))) = x0)))) else none) else (some false)) fun (s0 : Bool) => (some s0))
theorem pat_reader__is_s0_ok {x0 x1 : Int} {x2 : List Int} {x3 x4 x5 x6 x7 x8 : Int} {r : Bool} (h : pat_reader__is_s0 x0 x1 x2 x3 x4 x5 x6 x7 x8 = some r) : SC Tryz.prog 181 [.ptr 0 0, iM x0, iL x1] [.box [lR x2, .mp 1, iL x3, iL x4], .map [(iM 45, iL x5), (iM 43, iL x6), (iM 37, iL x7), (iM 164, iL x8)]] (.bool r) [.box [lR x2, .mp 1, iL x3, iL x4], .map [(iM 45, iL x5), (iM 43, iL x6), (iM 37, iL x7), (iM 164, iL x8)]] := by
 refine kFn (fn := Tryz.f181) (fun F hFn hFH hFD => ?_)
 unfold pat_reader__is_s0 at h
 refine kq (kcN h (fun (s0 : Bool) => ([(6, .bool s0)], [.box [lR x2, .mp 1, iL x3, iL x4], .map [(iM 45, iL x5), (iM 43, iL x6), (iM 37, iL x7), (iM 164, iL x8)]])) (fun s0 hy0 => ?_) (fun s0 h0 => ?_))
 ·refine kDr (kD 13 (kB 19 hy0 (fun h1 => ?_) (fun h2 => ?_)))
  ·refine kD 10 ?_
   obtain ⟨hm, h3⟩ := asrt h1
   exact kJ 30 (tr2 := [([], []), ([], []), ([], []), ([0, 1], []), ([], []), ([], []), ([], []), ([], []), ([], []), ([0, 1], []), ([], []), ([], []), ([], []), ([], []), ([], []), ([], []), ([0, 1], []), ([], []), ([], []), ([], []), ([0, 1], []), ([], []), ([], []), ([], [])]) (encI_len .i32) hm (kD 5 (kE (kNo h3 [6])))
  ·exact kD 16 (kE (kNo h2 [6]))
 ·exact kX (by obtain rfl := oi h0; exact kRV [0, 1] (.inr rfl) hFn hFH hFD)
def pat_reader__eat_s0 (x0 : Int) (x1 : List Int) (x2 x3 x4 x5 x6 x7 : Int) : Option (Bool × Int) :=
 (Option.bind (pat_reader__is_s0 x0 0 x1 x2 x3 x4 x5 x6 x7) fun y0 => (bif (!y0) then (some (false, x2)) else (some (true, (IntKind.wrap .i64 (x2 + 1))))))
theorem pat_reader__eat_s0_ok {x0 : Int} {x1 : List Int} {x2 x3 x4 x5 x6 x7 : Int} {r : Bool × Int} (h : pat_reader__eat_s0 x0 x1 x2 x3 x4 x5 x6 x7 = some r) : SC Tryz.prog 165 [.ptr 0 0, iM x0] [.box [lR x1, .mp 1, iL x2, iL x3], .map [(iM 45, iL x4), (iM 43, iL x5), (iM 37, iL x6), (iM 164, iL x7)]] (.bool r.1) [.box [lR x1, .mp 1, iL r.2, iL x3], .map [(iM 45, iL x4), (iM 43, iL x5), (iM 37, iL x6), (iM 164, iL x7)]] := by
 refine kFn (fn := Tryz.f165) (fun F hFn hFH hFD => ?_)
 unfold pat_reader__eat_s0 at h
 refine kq (kS (kn 2 ?_))
 obtain ⟨y0, hy0, h0⟩ := bindS h
 exact kCg (some 7) [0, 1] (pat_reader__is_s0_ok hy0) (kr 1 (kBT 8 h0 (fun h1 => kq (kX (PJ.passRet (by obtain rfl := oi h1; exact kRV [0, 1] (.inr rfl) hFn hFH hFD)))) (fun h2 => kKN (kq (kq (kX (by obtain rfl := oi h2; exact kRV [0, 1] (.inr rfl) hFn hFH hFD)))))))
def pat_reader__fail_s0 (x0 : Int) (x1 : List Int) (x2 x3 x4 x5 x6 x7 : Int) : Option (Unit) :=
 (some ())
theorem pat_reader__fail_s0_ok0 {x0 : Int} {x1 : List Int} {x2 x3 x4 x5 x6 x7 : Int} {r : Unit} (h : pat_reader__fail_s0 x0 x1 x2 x3 x4 x5 x6 x7 = some r) : SP Tryz.prog 167 [.ptr 0 0, iL x0] [.box [lR x1, .mp 1, iL x2, iL x3], .map [(iM 45, iL x4), (iM 43, iL x5), (iM 37, iL x6), (iM 164, iL x7)]] [.box [.undef, .mp 1, iL x2, iL x0], .map [(iM 45, iL x4), (iM 43, iL x5), (iM 37, iL x6), (iM 164, iL x7)]] := by
 refine kFnP (fn := Tryz.f167) (fun F hFn hFH hFD => ?_)
 unfold pat_reader__fail_s0 at h
 exact kq (kR (RJ.panic (d := 8) (by kernel_rfl) (by obtain rfl := oi h; exact PP.wk (Wk.undefs 0 [true, false, false, false] (cs := [lR x1, .mp 1, iL x2, iL x0]) (by kernel_rfl)) (kPV [0, 1] hFH hFD)) (by rw [hFn]; kernel_rfl)))
def pat_reader__pad_s0 (x0 : Int) (x1 : List Int) (x2 x3 x4 x5 x6 x7 : Int) (x8 : Bool) (x9 x10 x11 x12 x13 x14 x15 x16 x17 : Int) (x18 : Bool) (x19 x20 : Int) : Option ((Int × Int × Int) ⊕ (Int × Int)) :=
 (Option.bind (Option.bind (bif (decide (¬ x20 = 0)) then (some (true, x2)) else (Option.bind (pat_reader__eat_s0 42 x1 x2 x3 x4 x5 x6 x7) fun y0 => (some ((!y0.1), y0.2)))) fun (s1 : Bool × Int) => (bif s1.1 then (some (.inr (.inl (s1.2, x19, x20)))) else (some (.inl s1.2)))) (joinX fun (s0 : Int) => (Option.bind (bif (decide (s0 = (x1.length : Int))) then (Option.bind (pat_reader__fail_s0 s0 x1 s0 x3 x4 x5 x6 x7) fun y1 => (some (.inr (.inr (s0, s0))))) else (some (.inl ()))) (joinX fun (s2 : Unit) => (bif inR s0 x1.length then (some (.inl ((IntKind.wrap .i64 (s0 + 1)), (nth x1 s0), x0))) else none)))))
theorem pat_reader__pad_s0_okW {x0 : Int} {x1 : List Int} {x2 x3 x4 x5 x6 x7 : Int} {x8 : Bool} {x9 x10 x11 x12 x13 x14 x15 x16 x17 : Int} {x18 : Bool} {x19 x20 : Int} {r : (Int × Int × Int) ⊕ (Int × Int)} (h : pat_reader__pad_s0 x0 x1 x2 x3 x4 x5 x6 x7 x8 x9 x10 x11 x12 x13 x14 x15 x16 x17 x18 x19 x20 = some r) : (∀ a, r = .inl a → SC Tryz.prog 162 [.ptr 0 0, .ptr 2 0, iL x0] [.box [lR x1, .mp 1, iL x2, iL x3], .map [(iM 45, iL x4), (iM 43, iL x5), (iM 37, iL x6), (iM 164, iL x7)], .box [.nl, .nl, .nl, .nl, .bool x8, iL x9, iL x10, iL x11, iL x12, iL x13, iL x14, iL x15, iL x16, iL x17, .bool x18, iM x19, iL x20]] (.tup []) [.box [lR x1, .mp 1, iL a.1, iL x3], .map [(iM 45, iL x4), (iM 43, iL x5), (iM 37, iL x6), (iM 164, iL x7)], .box [.nl, .nl, .nl, .nl, .bool x8, iL x9, iL x10, iL x11, iL x12, iL x13, iL x14, iL x15, iL x16, iL x17, .bool x18, iM a.2.1, iL a.2.2]]) ∧ (∀ a, r = .inr a → SP Tryz.prog 162 [.ptr 0 0, .ptr 2 0, iL x0] [.box [lR x1, .mp 1, iL x2, iL x3], .map [(iM 45, iL x4), (iM 43, iL x5), (iM 37, iL x6), (iM 164, iL x7)], .box [.nl, .nl, .nl, .nl, .bool x8, iL x9, iL x10, iL x11, iL x12, iL x13, iL x14, iL x15, iL x16, iL x17, .bool x18, iM x19, iL x20]] [.box [.undef, .mp 1, iL a.1, iL a.2], .map [(iM 45, iL x4), (iM 43, iL x5), (iM 37, iL x6), (iM 164, iL x7)], .box [.undef, .undef, .undef, .undef, .bool x8, iL x9, iL x10, iL x11, iL x12, iL x13, iL x14, iL x15, iL x16, iL x17, .bool x18, iM x19, iL x20]]) := by
 refine kFnW (fn := Tryz.f162) _ _ _ (fun F hFn hFH hFD => ?_)
 unfold pat_reader__pad_s0 at h
 refine kcX h (fun (s0 : Int) => ([(0, .ptr 0 0), (1, .ptr 2 0), (2, iL x0)], [.box [lR x1, .mp 1, iL s0, iL x3], .map [(iM 45, iL x4), (iM 43, iL x5), (iM 37, iL x6), (iM 164, iL x7)], .box [.nl, .nl, .nl, .nl, .bool x8, iL x9, iL x10, iL x11, iL x12, iL x13, iL x14, iL x15, iL x16, iL x17, .bool x18, iM x19, iL x20]])) (fun y2 hy0 h0 => ?_) (fun s0 h1 => ?_)
 ·refine kcN hy0 (fun (s1 : Bool × Int) => ([(0, .ptr 0 0), (1, .ptr 2 0), (2, iL x0), (15, .bool s1.1)], [.box [lR x1, .mp 1, iL s1.2, iL x3], .map [(iM 45, iL x4), (iM 43, iL x5), (iM 37, iL x6), (iM 164, iL x7)], .box [.nl, .nl, .nl, .nl, .bool x8, iL x9, iL x10, iL x11, iL x12, iL x13, iL x14, iL x15, iL x16, iL x17, .bool x18, iM x19, iL x20]])) (fun s1 hy1 => ?_) (fun s1 h2 => ?_)
  ·refine km 6 (kB 11 hy1 (fun h3 => ?_) (fun h4 => ?_))
   ·exact ke 4 (kNo h3 [0, 1, 2, 15])
   ·refine kc 1 ?_
    obtain ⟨y0, hy2, h5⟩ := bindS h4
    exact kCg (some 13) [0, 1] (pat_reader__eat_s0_ok hy2) (ke 2 (kNo h5 [0, 1, 2, 15]))
  ·exact kBT 15 h2 (fun h6 => kX (kCx h6 h0 (fun h8 => by obtain rfl := oi h8; exact kRV [0, 1, 2] (.inr rfl) hFn hFH hFD))) (fun h7 => kK (kXo h7 [0, 1, 2]))
 ·refine kcX h1 (fun (s2 : Unit) => ([(0, .ptr 0 0), (1, .ptr 2 0), (2, iL x0)], [.box [lR x1, .mp 1, iL s0, iL x3], .map [(iM 45, iL x4), (iM 43, iL x5), (iM 37, iL x6), (iM 164, iL x7)], .box [.nl, .nl, .nl, .nl, .bool x8, iL x9, iL x10, iL x11, iL x12, iL x13, iL x14, iL x15, iL x16, iL x17, .bool x18, iM x19, iL x20]])) (fun y3 hy3 h9 => ?_) (fun s2 h10 => ?_)
  ·refine kS (kDr (kD 10 (kEN (kBT 25 hy3 (fun h11 => ?_) (fun h12 => ?_)))))
   ·refine km 5 ?_
    obtain ⟨y1, hy4, h13⟩ := bindS h11
    refine kCP (some 31) [0, 1] (pat_reader__fail_s0_ok0 hy4) ?_
    obtain rfl := oi h13
    have h14 := joinX_inr h9
    exact PP.cutXr (by obtain rfl := oi h14; exact PP.wk (Wk.undefs 2 [true, true, true, true, false, false, false, false, false, false, false, false, false, false, false, false, false] (cs := [.nl, .nl, .nl, .nl, .bool x8, iL x9, iL x10, iL x11, iL x12, iL x13, iL x14, iL x15, iL x16, iL x17, .bool x18, iM x19, iL x20]) (by kernel_rfl)) (kPV [0, 1, 2] hFH hFD))
   ·exact kK (kXo h12 [0, 1, 2])
  ·refine kS (kDr (kD 10 ?_))
   obtain ⟨hm, h15⟩ := asrt h10
   exact kJ 42 (tr2 := [([], []), ([], []), ([], []), ([], []), ([], []), ([0, 1], []), ([], []), ([], []), ([], []), ([0, 1], []), ([], [])]) (encI_len .i32) hm (kD 8 (kEN (kM (by obtain rfl := oi h15; exact kRV [0, 1, 2] (.inl rfl) hFn hFH hFD))))
theorem pat_reader__pad_s0_ok0 {x0 : Int} {x1 : List Int} {x2 x3 x4 x5 x6 x7 : Int} {x8 : Bool} {x9 x10 x11 x12 x13 x14 x15 x16 x17 : Int} {x18 : Bool} {x19 x20 : Int} {r : Int × Int × Int} (h : pat_reader__pad_s0 x0 x1 x2 x3 x4 x5 x6 x7 x8 x9 x10 x11 x12 x13 x14 x15 x16 x17 x18 x19 x20 = some (.inl r)) : SC Tryz.prog 162 [.ptr 0 0, .ptr 2 0, iL x0] [.box [lR x1, .mp 1, iL x2, iL x3], .map [(iM 45, iL x4), (iM 43, iL x5), (iM 37, iL x6), (iM 164, iL x7)], .box [.nl, .nl, .nl, .nl, .bool x8, iL x9, iL x10, iL x11, iL x12, iL x13, iL x14, iL x15, iL x16, iL x17, .bool x18, iM x19, iL x20]] (.tup []) [.box [lR x1, .mp 1, iL r.1, iL x3], .map [(iM 45, iL x4), (iM 43, iL x5), (iM 37, iL x6), (iM 164, iL x7)], .box [.nl, .nl, .nl, .nl, .bool x8, iL x9, iL x10, iL x11, iL x12, iL x13, iL x14, iL x15, iL x16, iL x17, .bool x18, iM r.2.1, iL r.2.2]] := (pat_reader__pad_s0_okW h).1 _ rfl
theorem pat_reader__pad_s0_ok1 {x0 : Int} {x1 : List Int} {x2 x3 x4 x5 x6 x7 : Int} {x8 : Bool} {x9 x10 x11 x12 x13 x14 x15 x16 x17 : Int} {x18 : Bool} {x19 x20 : Int} {r : Int × Int} (h : pat_reader__pad_s0 x0 x1 x2 x3 x4 x5 x6 x7 x8 x9 x10 x11 x12 x13 x14 x15 x16 x17 x18 x19 x20 = some (.inr r)) : SP Tryz.prog 162 [.ptr 0 0, .ptr 2 0, iL x0] [.box [lR x1, .mp 1, iL x2, iL x3], .map [(iM 45, iL x4), (iM 43, iL x5), (iM 37, iL x6), (iM 164, iL x7)], .box [.nl, .nl, .nl, .nl, .bool x8, iL x9, iL x10, iL x11, iL x12, iL x13, iL x14, iL x15, iL x16, iL x17, .bool x18, iM x19, iL x20]] [.box [.undef, .mp 1, iL r.1, iL r.2], .map [(iM 45, iL x4), (iM 43, iL x5), (iM 37, iL x6), (iM 164, iL x7)], .box [.undef, .undef, .undef, .undef, .bool x8, iL x9, iL x10, iL x11, iL x12, iL x13, iL x14, iL x15, iL x16, iL x17, .bool x18, iM x19, iL x20]] := (pat_reader__pad_s0_okW h).2 _ rfl
def pat_reader__twice_s0 (x0 : List Int) (x1 x2 x3 x4 x5 x6 : Int) : Option (Bool × Int) :=
 (Option.bind (Option.bind (Option.bind (pat_reader__is_s0 39 0 x0 x1 x2 x3 x4 x5 x6) fun y0 => (bif (!y0) then (some true) else (Option.bind (pat_reader__is_s0 39 1 x0 x1 x2 x3 x4 x5 x6) fun y1 => (some (!y1))))) fun (s0 : Bool) => (bif s0 then (some (.inr (false, x1))) else (some (.inl ())))) (joinX fun (s1 : Unit) => (some (true, (IntKind.wrap .i64 (x1 + 2))))))
theorem pat_reader__twice_s0_ok {x0 : List Int} {x1 x2 x3 x4 x5 x6 : Int} {r : Bool × Int} (h : pat_reader__twice_s0 x0 x1 x2 x3 x4 x5 x6 = some r) : SC Tryz.prog 200 [.ptr 0 0] [.box [lR x0, .mp 1, iL x1, iL x2], .map [(iM 45, iL x3), (iM 43, iL x4), (iM 37, iL x5), (iM 164, iL x6)]] (.bool r.1) [.box [lR x0, .mp 1, iL r.2, iL x2], .map [(iM 45, iL x3), (iM 43, iL x4), (iM 37, iL x5), (iM 164, iL x6)]] := by
 refine kFn (fn := Tryz.f200) (fun F hFn hFH hFD => ?_)
 unfold pat_reader__twice_s0 at h
 refine kq (kcX h (fun (s1 : Unit) => ([(0, .ptr 0 0), (2, .bool false)], [.box [lR x0, .mp 1, iL x1, iL x2], .map [(iM 45, iL x3), (iM 43, iL x4), (iM 37, iL x5), (iM 164, iL x6)]])) (fun y2 hy0 h0 => ?_) (fun s1 h1 => ?_))
 ·refine kcN hy0 (fun (s0 : Bool) => ([(0, .ptr 0 0), (2, .bool false), (10, .bool s0)], [.box [lR x0, .mp 1, iL x1, iL x2], .map [(iM 45, iL x3), (iM 43, iL x4), (iM 37, iL x5), (iM 164, iL x6)]])) (fun s0 hy1 => ?_) (fun s0 h2 => ?_)
  ·refine km 1 ?_
   obtain ⟨y0, hy2, h3⟩ := bindS hy1
   refine kCg (some 4) [0, 1] (pat_reader__is_s0_ok hy2) (kc 2 (kB 6 h3 (fun h4 => ?_) (fun h5 => ?_)))
   ·exact ke 4 (kNo h4 [0, 2, 10])
   ·refine kc 1 ?_
    obtain ⟨y1, hy3, h6⟩ := bindS h5
    exact kCg (some 8) [0, 1] (pat_reader__is_s0_ok hy3) (ke 2 (kNo h6 [0, 2, 10]))
  ·exact kBT 10 h2 (fun h7 => kq (kX (kCx h7 h0 (fun h9 => by obtain rfl := oi h9; exact kRV [0, 1] (.inr rfl) hFn hFH hFD)))) (fun h8 => kK (kXo h8 [0, 2]))
 ·exact kq (kq (kX (by obtain rfl := oi h1; exact kRV [0, 1] (.inr rfl) hFn hFH hFD)))
def pat_reader__quoted_s0 (x0 : List Int) (x1 x2 x3 x4 x5 x6 : Int) (x7 : List St106) : Option ((Int × (List St106)) ⊕ Int) :=
 (Option.bind (pat_reader__twice_s0 x0 x1 x2 x3 x4 x5 x6) fun y1 => (bif y1.1 then (bif room (x7.length + ([(⟨0, 39⟩ : St106)] : List St106).length) then (some (.inl (y1.2, (x7 ++ ([(⟨0, 39⟩ : St106)] : List St106))))) else none) else (Option.bind (loopN (fun (s0 : Int × (List St106)) => (bif (decide (s0.1 < (x0.length : Int))) then (Option.bind (pat_reader__twice_s0 x0 s0.1 x2 x3 x4 x5 x6) fun y2 => (bif y2.1 then (bif room (s0.2.length + ([(⟨0, 39⟩ : St106)] : List St106).length) then (some (.inl (y2.2, (s0.2 ++ ([(⟨0, 39⟩ : St106)] : List St106))))) else none) else (Option.bind (pat_reader__eat_s0 39 x0 y2.2 x2 x3 x4 x5 x6) fun y0 => (bif y0.1 then (some (.inr (.inr (.inl (y0.2, s0.2))))) else (bif inR y0.2 x0.length then (bif room (s0.2.length + (([(⟨0, (nth x0 y0.2)⟩ : St106)] : List St106)).length) then (some (.inl ((IntKind.wrap .i64 (y0.2 + 1)), (s0.2 ++ (([(⟨0, (nth x0 y0.2)⟩ : St106)] : List St106)))))) else none) else none))))) else (some (.inr (.inl s0.1))))) big ((IntKind.wrap .i64 (y1.2 + 1)), x7)) (joinX fun (s1 : Int) => (Option.bind (pat_reader__fail_s0 x1 x0 s1 x2 x3 x4 x5 x6) fun y3 => (some (.inr s1)))))))
theorem pat_reader__quoted_s0_okW {x0 : List Int} {x1 x2 x3 x4 x5 x6 : Int} {x7 : List St106} {r : (Int × (List St106)) ⊕ Int} (h : pat_reader__quoted_s0 x0 x1 x2 x3 x4 x5 x6 x7 = some r) : (∀ a, r = .inl a → SC Tryz.prog 182 [.ptr 0 0, .vc 2] [.box [lR x0, .mp 1, iL x1, iL x2], .map [(iM 45, iL x3), (iM 43, iL x4), (iM 37, iL x5), (iM 164, iL x6)], vecL encSt106 2 107 x7] (.vc 3) [.box [lR x0, .mp 1, iL a.1, iL x2], .map [(iM 45, iL x3), (iM 43, iL x4), (iM 37, iL x5), (iM 164, iL x6)], .gone, vecL encSt106 2 107 a.2]) ∧ (∀ a, r = .inr a → SP Tryz.prog 182 [.ptr 0 0, .vc 2] [.box [lR x0, .mp 1, iL x1, iL x2], .map [(iM 45, iL x3), (iM 43, iL x4), (iM 37, iL x5), (iM 164, iL x6)], vecL encSt106 2 107 x7] [.box [.undef, .mp 1, iL a, iL x1], .map [(iM 45, iL x3), (iM 43, iL x4), (iM 37, iL x5), (iM 164, iL x6)], .gone]) := by
 refine kFnW (fn := Tryz.f182) _ _ _ (fun F hFn hFH hFD => ?_)
 unfold pat_reader__quoted_s0 at h
 refine J.wk (Wk.move 2 (n := x7.length) (k := 2) (e := 107) (cs := x7.flatMap encSt106) (by kernel_rfl)) (kq (kq (kS (kn 1 ?_))))
 obtain ⟨y1, hy0, h0⟩ := bindS h
 refine kCg (some 11) [0, 1] (pat_reader__twice_s0_ok hy0) (kEN (kBT 11 h0 (fun h1 => ?_) (fun h2 => ?_)))
 ·exact kn 3 (kAp 15 3 5 2 107 [3, 4] encSt106 h1 (fun h3 => kr 1 (kX (PJ.passRet (by obtain rfl := oi h3; exact kRV [0, 1, 2, 5] (.inr rfl) hFn hFH hFD)))))
 ·refine kKN (kq (kcX h2 (fun (s1 : Int) => ([(0, .ptr 0 0), (4, .nl), (5, iL x1)], [.box [lR x0, .mp 1, iL s1, iL x2], .map [(iM 45, iL x3), (iM 43, iL x4), (iM 37, iL x5), (iM 164, iL x6)], .gone])) (fun y4 hy1 h4 => ?_) (fun s1 h5 => ?_)))
  ·refine kb 0 (kl (fun (s0 : Int × (List St106)) => ([(0, .ptr 0 0), (1, .vc 3), (4, .nl), (5, iL x1)], [.box [lR x0, .mp 1, iL s0.1, iL x2], .map [(iM 45, iL x3), (iM 43, iL x4), (iM 37, iL x5), (iM 164, iL x6)], .gone, vecL encSt106 2 107 s0.2])) hy1 [0, 1, 4, 5] (fun s0 x133 hs0 => kS (kS (kDr (kD 10 (kEN (kBT 32 hs0 (fun h6 => ?_) (fun h7 => ?_))))))))
   ·refine kKN (kb 1 (kb 2 (kn 1 ?_)))
    obtain ⟨y2, hy2, h8⟩ := bindS h6
    refine kCg (some 56) [0, 1] (pat_reader__twice_s0_ok hy2) (kr 1 (kBT 54 h8 (fun h9 => ?_) (fun h10 => ?_)))
    ·exact km 3 (kAp 60 3 5 2 107 [3, 4] encSt106 h9 (fun h11 => ke 1 (PJ.blockNormal (PJ.blockNormal (kLW h11 hFH hFD [0, 1, 2, 5])))))
    ·refine kn 1 ?_
     obtain ⟨y0, hy3, h12⟩ := bindS h10
     refine kCg (some 63) [0, 1] (pat_reader__eat_s0_ok hy3) (kr 1 (kBT 61 h12 (fun h13 => ?_) (fun h14 => ?_)))
     ·exact kq (kXb (PJ.blockRet (kLx h13 (fun h15 => PJ.blockRet (kCx h15 h4 (fun h16 => by obtain rfl := oi h16; exact kRV [0, 1, 2, 3] (.inr rfl) hFn hFH hFD))))))
     ·refine kS (kDr (kD 9 ?_))
      obtain ⟨hm, h17⟩ := asrt h14
      refine kJ 42 (tr2 := [([], []), ([], []), ([], []), ([], []), ([0, 1], []), ([], []), ([], []), ([], []), ([0, 1], []), ([], [])]) (encI_len .i32) hm (kD 3 ?_)
      obtain ⟨hm, h18⟩ := asrt h17
      exact RJ.rel (d := (some 46)) (ef := ⟨.vc 5, [3, 4], [(3, .gone), (5, .vec (s0.2.length + (([(⟨0, (nth x0 y0.2)⟩ : St106)] : List St106)).length) 2 107 (s0.2.flatMap encSt106 ++ (([(⟨0, (nth x0 y0.2)⟩ : St106)] : List St106)).flatMap encSt106))]⟩) (ef' := ⟨.vc 5, [3, 4], [(3, .gone), (5, vecL encSt106 2 107 (s0.2 ++ (([(⟨0, (nth x0 y0.2)⟩ : St106)] : List St106))))]⟩) (c := room (s0.2.length + (([(⟨0, (nth x0 y0.2)⟩ : St106)] : List St106)).length)) (tr2 := [([], []), ([], []), ([], []), ([], []), ([0, 1], []), ([], []), ([], []), ([], []), ([0, 1], []), ([], []), ([], []), ([], []), ([], [8, 9, 8, 9]), ([6, 7, 8, 9], [6, 7, 10, 11, 10, 11])]) (H2 := [.box [lR x0, .mp 1, iL y0.2, iL x2], .map [(iM 45, iL x3), (iM 43, iL x4), (iM 37, iL x5), (iM 164, iL x6)], .gone, .gone, vecL encSt106 2 107 (([(⟨0, (nth x0 y0.2)⟩ : St106)] : List St106)), vecL encSt106 2 107 ((s0.2 ++ (([(⟨0, (nth x0 y0.2)⟩ : St106)] : List St106))))]) (by kernel_rfl) hm (fun hc => N.app) (by kernel_rfl) (kD 1 (kEN (kR (RJ.seg 8 [0, 1, 4, 5] (L2 := [(0, .ptr 0 0), (1, .vc 5), (4, .nl), (5, iL x1)]) (H2 := [.box [lR x0, .mp 1, iL (IntKind.wrap .i64 (y0.2 + 1)), iL x2], .map [(iM 45, iL x3), (iM 43, iL x4), (iM 37, iL x5), (iM 164, iL x6)], .gone, .gone, vecL encSt106 2 107 (([(⟨0, (nth x0 y0.2)⟩ : St106)] : List St106)), vecL encSt106 2 107 ((s0.2 ++ (([(⟨0, (nth x0 y0.2)⟩ : St106)] : List St106))))]) (by kernel_rfl) (kE (PJ.blockNormal (PJ.blockNormal (kLW h18 hFH hFD [0, 1, 2, 5]))))))))
   ·exact kEp 0 (kLx h7 (fun h19 => PJ.blockOut (kXW h19 hFH hFD [0, 1, 2])))
  ·refine kn 2 ?_
   obtain ⟨y3, hy4, h20⟩ := bindS h5
   exact kCP (some 67) [0, 1] (pat_reader__fail_s0_ok0 hy4) (PP.next (by obtain rfl := oi h20; exact kPV [0, 1, 2] hFH hFD))
theorem pat_reader__quoted_s0_ok0 {x0 : List Int} {x1 x2 x3 x4 x5 x6 : Int} {x7 : List St106} {r : Int × (List St106)} (h : pat_reader__quoted_s0 x0 x1 x2 x3 x4 x5 x6 x7 = some (.inl r)) : SC Tryz.prog 182 [.ptr 0 0, .vc 2] [.box [lR x0, .mp 1, iL x1, iL x2], .map [(iM 45, iL x3), (iM 43, iL x4), (iM 37, iL x5), (iM 164, iL x6)], vecL encSt106 2 107 x7] (.vc 3) [.box [lR x0, .mp 1, iL r.1, iL x2], .map [(iM 45, iL x3), (iM 43, iL x4), (iM 37, iL x5), (iM 164, iL x6)], .gone, vecL encSt106 2 107 r.2] := (pat_reader__quoted_s0_okW h).1 _ rfl
theorem pat_reader__quoted_s0_ok1 {x0 : List Int} {x1 x2 x3 x4 x5 x6 : Int} {x7 : List St106} {r : Int} (h : pat_reader__quoted_s0 x0 x1 x2 x3 x4 x5 x6 x7 = some (.inr r)) : SP Tryz.prog 182 [.ptr 0 0, .vc 2] [.box [lR x0, .mp 1, iL x1, iL x2], .map [(iM 45, iL x3), (iM 43, iL x4), (iM 37, iL x5), (iM 164, iL x6)], vecL encSt106 2 107 x7] [.box [.undef, .mp 1, iL r, iL x1], .map [(iM 45, iL x3), (iM 43, iL x4), (iM 37, iL x5), (iM 164, iL x6)], .gone] := (pat_reader__quoted_s0_okW h).2 _ rfl
def pat_special (x0 : Int) : Option (Bool) :=
 (Option.bind (Option.bind (bif (decide (x0 = 35)) then (some true) else (bif (decide (x0 = 64)) then (some true) else (bif (decide (x0 = 44)) then (some true) else (bif (decide (x0 = 46)) then (some true) else (bif (decide (x0 = 59)) then (some true) else (bif (decide (x0 = 42)) then (some true) else (bif (decide (x0 = 37)) then (some true) else (bif (decide (x0 = 45)) then (some true) else (bif (decide (x0 = 43)) then (some true) else (bif (decide (x0 = 39)) then (some true) else (bif (decide (x0 = 69)) then (some true) else (some (decide (x0 = 164)))))))))))))) fun (s0 : Bool) => (bif s0 then (some (.inr true)) else (some (.inl ())))) (joinX fun (s2 : Unit) => (Option.bind (bif (decide (x0 ≥ 48)) then (some (decide (x0 ≤ 57))) else (some false)) fun (s1 : Bool) => (some s1))))
theorem pat_special_ok {x0 : Int} {r : Bool} (h : pat_special x0 = some r) : SC Tryz.prog 183 [iM x0] [] (.bool r) [] := by
 refine kFn (fn := Tryz.f183) (fun F hFn hFH hFD => ?_)
 unfold pat_special at h
 exact kq (kcX h (fun (s2 : Unit) => ([(0, iM x0), (2, .bool false)], [])) (fun y0 hy0 h0 => kq (kb 0 (kcN hy0 (fun (s0 : Bool) => ([(0, iM x0), (2, .bool false), (4, .bool s0)], [])) (fun s0 hy1 => kq (kBT 4 hy1 (fun h3 => kK (kNo h3 [0, 2, 4])) (fun h4 => kq (kBT 4 h4 (fun h5 => kK (kNo h5 [0, 2, 4])) (fun h6 => kq (kBT 4 h6 (fun h7 => kK (kNo h7 [0, 2, 4])) (fun h8 => kq (kBT 4 h8 (fun h9 => kK (kNo h9 [0, 2, 4])) (fun h10 => kq (kBT 4 h10 (fun h11 => kK (kNo h11 [0, 2, 4])) (fun h12 => kq (kBT 4 h12 (fun h13 => kK (kNo h13 [0, 2, 4])) (fun h14 => kSR (RJ.seg 2 [0, 2, 3, 4] (L2 := [(0, iM x0), (2, .bool false), (3, iM x0), (4, .bool (decide (x0 = 37)))]) (H2 := []) (by kernel_rfl) (kEN (kBT 4 h14 (fun h15 => kK (kNo h15 [0, 2, 4])) (fun h16 => kq (kBT 4 h16 (fun h17 => kK (kNo h17 [0, 2, 4])) (fun h18 => kq (kBT 4 h18 (fun h19 => kK (kNo h19 [0, 2, 4])) (fun h20 => kq (kBT 4 h20 (fun h21 => kK (kNo h21 [0, 2, 4])) (fun h22 => kq (kBT 4 h22 (fun h23 => kK (kNo h23 [0, 2, 4])) (fun h24 => kM (kNo h24 [0, 2, 4])))))))))))))))))))))))))) (fun s0 h2 => kBT 4 h2 (fun h25 => kq (kXb (kCx h25 h0 (fun h27 => by obtain rfl := oi h27; exact kZ hFn hFH hFD)))) (fun h26 => kKb (kXo h26 [0, 2])))))) (fun s2 h1 => kcN h1 (fun (s1 : Bool) => ([(2, .bool s1)], [])) (fun s1 hy2 => km 3 (kB 19 hy2 (fun h29 => ke 4 (kNo h29 [2])) (fun h30 => ke 4 (kNo h30 [2])))) (fun s1 h28 => kX (by obtain rfl := oi h28; exact kZ hFn hFH hFD))))
def pat_reader__affix_s0 (x0 : List Int) (x1 x2 x3 x4 x5 x6 : Int) : Option ((List St106) × Int ⊕ (Int × Int)) :=
 (Option.bind (loopN (fun (s0 : Int × (List St106)) => (bif (decide (s0.1 < (x0.length : Int))) then (bif inR s0.1 x0.length then (bif (decide ((nth x0 s0.1) = 45)) then (Option.bind (bif room (s0.2.length + ([(⟨x3, 0⟩ : St106)] : List St106).length) then (some ()) else none) fun (s2 : Unit) => (some (.inl ((IntKind.wrap .i64 (s0.1 + 1)), (s0.2 ++ ([(⟨x3, 0⟩ : St106)] : List St106)))))) else (bif (decide ((nth x0 s0.1) = 43)) then (Option.bind (bif room (s0.2.length + ([(⟨x4, 0⟩ : St106)] : List St106).length) then (some ()) else none) fun (s3 : Unit) => (some (.inl ((IntKind.wrap .i64 (s0.1 + 1)), (s0.2 ++ ([(⟨x4, 0⟩ : St106)] : List St106)))))) else (bif (decide ((nth x0 s0.1) = 37)) then (Option.bind (bif room (s0.2.length + ([(⟨x5, 0⟩ : St106)] : List St106).length) then (some ()) else none) fun (s4 : Unit) => (some (.inl ((IntKind.wrap .i64 (s0.1 + 1)), (s0.2 ++ ([(⟨x5, 0⟩ : St106)] : List St106)))))) else (bif (decide ((nth x0 s0.1) = 164)) then (Option.bind (bif room (s0.2.length + ([(⟨x6, 0⟩ : St106)] : List St106).length) then (some ()) else none) fun (s5 : Unit) => (some (.inl ((IntKind.wrap .i64 (s0.1 + 1)), (s0.2 ++ ([(⟨x6, 0⟩ : St106)] : List St106)))))) else (Option.bind (Option.bind (pat_reader__is_s0 39 0 x0 s0.1 x2 x3 x4 x5 x6) fun y2 => (bif y2 then (Option.bind (pat_reader__quoted_s0 x0 s0.1 x2 x3 x4 x5 x6 s0.2) fun y0 => (Sum.elim (fun y1 => (some (.inr (.inl (y1.1, y1.2))))) (fun y3 => (some (.inr (.inr (.inr (.inr (y3, s0.1))))))) y0)) else (Option.bind (pat_special (nth x0 s0.1)) fun y4 => (bif y4 then (some (.inr (.inr (.inr (.inl (s0.2, s0.1)))))) else (bif room (s0.2.length + (([(⟨0, (nth x0 s0.1)⟩ : St106)] : List St106)).length) then (some (.inl ())) else none))))) (joinX fun (s6 : Unit) => (some (.inl ((IntKind.wrap .i64 (s0.1 + 1)), (s0.2 ++ (([(⟨0, (nth x0 s0.1)⟩ : St106)] : List St106)))))))))))) else none) else (some (.inr (.inl (s0.1, s0.2)))))) big (x1, ([] : List St106))) (joinX fun (s1 : Int × (List St106)) => (some (.inl (s1.2, s1.1)))))
theorem pat_reader__affix_s0_okW {x0 : List Int} {x1 x2 x3 x4 x5 x6 : Int} {r : (List St106) × Int ⊕ (Int × Int)} (h : pat_reader__affix_s0 x0 x1 x2 x3 x4 x5 x6 = some r) : (∀ a, r = .inl a → SC Tryz.prog 163 [.ptr 0 0] [.box [lR x0, .mp 1, iL x1, iL x2], .map [(iM 45, iL x3), (iM 43, iL x4), (iM 37, iL x5), (iM 164, iL x6)]] (lsv encSt106 2 a.1) [.box [lR x0, .mp 1, iL a.2, iL x2], .map [(iM 45, iL x3), (iM 43, iL x4), (iM 37, iL x5), (iM 164, iL x6)]]) ∧ (∀ a, r = .inr a → SP Tryz.prog 163 [.ptr 0 0] [.box [lR x0, .mp 1, iL x1, iL x2], .map [(iM 45, iL x3), (iM 43, iL x4), (iM 37, iL x5), (iM 164, iL x6)]] [.box [.undef, .mp 1, iL a.1, iL a.2], .map [(iM 45, iL x3), (iM 43, iL x4), (iM 37, iL x5), (iM 164, iL x6)]]) := by
 refine kFnW (fn := Tryz.f163) _ _ _ (fun F hFn hFH hFD => ?_)
 unfold pat_reader__affix_s0 at h
 refine kq (kq (kcX h (fun (s1 : Int × (List St106)) => ([(2, .nl), (3, .vc 2)], [.box [lR x0, .mp 1, iL s1.1, iL x2], .map [(iM 45, iL x3), (iM 43, iL x4), (iM 37, iL x5), (iM 164, iL x6)], vecL encSt106 2 107 s1.2])) (fun y5 hy1 h1 => ?_) (fun s1 h7 => ?_)))
 ·refine kb 0 (J.wk (Wk.viv 3 2 107 (by kernel_rfl)) (kl (fun (s0 : Int × (List St106)) => ([(0, .ptr 0 0), (2, .nl), (3, .vc 2)], [.box [lR x0, .mp 1, iL s0.1, iL x2], .map [(iM 45, iL x3), (iM 43, iL x4), (iM 37, iL x5), (iM 164, iL x6)], vecL encSt106 2 107 s0.2])) hy1 [0, 2, 3] (fun s0 x586 hs0 => kS (kS (kDr (kD 10 (kEN (kBT 16 hs0 (fun h8 => ?_) (fun h9 => ?_)))))))))
  ·refine kKN (kb 1 (kS (kDr (kD 8 ?_))))
   obtain ⟨hm, h2⟩ := asrt h8
   refine kJ 25 (tr2 := [([], []), ([], []), ([], []), ([0, 1], []), ([], []), ([], []), ([], []), ([0, 1], []), ([], [])]) (encI_len .i32) hm (kD 2 (kEN (kn 5 ?_)))
   cases hb0 : (decide ((nth x0 s0.1) = 45))
   ·have h3 := condF hb0 h2
    have hn594 := of_decide_eq_false hb0
    cases hb1 : (decide ((nth x0 s0.1) = 43))
    ·have h4 := condF hb1 h3
     have hn605 := of_decide_eq_false hb1
     cases hb2 : (decide ((nth x0 s0.1) = 37))
     ·have h5 := condF hb2 h4
      have hn616 := of_decide_eq_false hb2
      cases hb3 : (decide ((nth x0 s0.1) = 164))
      ·have h10 := condF hb3 h5
       have hn627 := of_decide_eq_false hb3
       refine RJ.look (none) (d := some 33) (ef := ⟨.tup [iL 0, .bool false], [1], []⟩) (c := missC (iM (nth x0 s0.1)) [(iM 45, iL x3), (iM 43, iL x4), (iM 37, iL x5), (iM 164, iL x6)]) (tr2 := []) (by kernel_rfl) (by simp [hitC, missC, sameB, sameE, hn594, hn605, hn616, hn627]) (kr 5 (kcX h10 (fun (s6 : Unit) => ([(0, .ptr 0 0), (2, .nl), (3, .vc 2)], [.box [lR x0, .mp 1, iL s0.1, iL x2], .map [(iM 45, iL x3), (iM 43, iL x4), (iM 37, iL x5), (iM 164, iL x6)], vecL encSt106 2 107 ((s0.2 ++ (([(⟨0, (nth x0 s0.1)⟩ : St106)] : List St106))))])) (fun y6 hy2 h0 => ?_) (fun s6 h11 => ?_)))
       ·refine kb 2 (kq (kF (kn 1 ?_)))
        obtain ⟨y2, hy3, h12⟩ := bindS hy2
        refine kCg (some 50) [0, 1] (pat_reader__is_s0_ok hy3) (kr 1 (kBT 48 h12 (fun h13 => ?_) (fun h14 => ?_)))
        ·refine kSR (RJ.seg 2 [0, 2, 3, 51, 52] (L2 := [(0, .ptr 0 0), (2, .nl), (3, .vc 2), (51, .ptr 0 0), (52, .vc 2)]) (H2 := [.box [lR x0, .mp 1, iL s0.1, iL x2], .map [(iM 45, iL x3), (iM 43, iL x4), (iM 37, iL x5), (iM 164, iL x6)], vecL encSt106 2 107 s0.2]) (by kernel_rfl) ?_)
         obtain ⟨y0, hy0, h6⟩ := bindS h13
         rcases y0 with y1 | y3
         ·have h15 := elimL h6
          exact kCg (some 53) [0, 1, 2] (pat_reader__quoted_s0_ok0 hy0) (kr 1 (kEx 1 (PJ.blockPass (by kernel_rfl) (kCx h15 h0 (fun h16 => PJ.blockOut (kLW h16 hFH hFD [0, 1, 3]))))))
         ·have h17 := elimR h6
          refine kCP (some 53) [0, 1, 2] (pat_reader__quoted_s0_ok1 hy0) (PP.next (PP.block ?_))
          obtain rfl := oi h17
          have h18 := joinX_inr h0
          refine PP.cutXr (PP.block ?_)
          obtain rfl := oi h18
          refine PP.loopOut (fun he0 => ?_)
          have h19 := congrArg some he0
          refine PP.block ?_
          obtain rfl := oi h19
          have h20 := joinX_inr h1
          exact PP.cutXr (by obtain rfl := oi h20; exact kPV [0, 1] hFH hFD)
        ·exact kSR (RJ.seg 1 [0, 2, 3, 4, 55] (L2 := [(0, .ptr 0 0), (2, .nl), (3, .vc 2), (4, iM (nth x0 s0.1)), (55, iM (nth x0 s0.1))]) (H2 := [.box [lR x0, .mp 1, iL s0.1, iL x2], .map [(iM 45, iL x3), (iM 43, iL x4), (iM 37, iL x5), (iM 164, iL x6)], vecL encSt106 2 107 s0.2]) (by kernel_rfl) (kAb 56 h14 (fun _ => pat_special_ok) (fun y4 h21 => kr 1 (kBT 54 h21 (fun h22 => kq (kXb (kCx h22 h0 (fun h24 => PJ.blockRet (kLx h24 (fun h25 => PJ.blockRet (kCx h25 h1 (fun h26 => by obtain rfl := oi h26; exact PJ.wk (Wk.freeze 2 (n := s0.2.length) (k := 2) (e := 107) (cs := s0.2.flatMap encSt106) (by kernel_rfl)) (kRV [0, 1] (.inr rfl) hFn hFH hFD))))))))) (fun h23 => km 4 (kAp 40 2 4 2 107 [2, 3] encSt106 h23 (fun h27 => ke 1 (PJ.blockNormal (kXW h27 hFH hFD [0, 1, 4])))))))))
       ·exact kM (PJ.blockNormal (kLo h11 [0, 2, 3]))
      ·have h28 := condT hb3 h5
       have hn627 := of_decide_eq_true hb3
       exact RJ.look (some 3) (d := some 33) (ef := ⟨.tup [iL x6, .bool true], [1], []⟩) (c := hitC (iM (nth x0 s0.1)) [(iM 45, iL x3), (iM 43, iL x4), (iM 37, iL x5), (iM 164, iL x6)] 3) (tr2 := []) (by kernel_rfl) (by simp [hitC, missC, sameB, sameE, hn594, hn605, hn616, hn627]) (kr 5 (kcN h28 (fun (s5 : Unit) => ([(0, .ptr 0 0), (2, .nl), (3, .vc 2)], [.box [lR x0, .mp 1, iL s0.1, iL x2], .map [(iM 45, iL x3), (iM 43, iL x4), (iM 37, iL x5), (iM 164, iL x6)], vecL encSt106 2 107 ((s0.2 ++ ([(⟨x6, 0⟩ : St106)] : List St106)))])) (fun s5 hy4 => kb 2 (kq (kT (km 4 (kAp 47 2 4 2 107 [2, 3] encSt106 hy4 (fun h30 => ke 1 (PJ.blockNormal (kNW h30 hFH hFD [0, 1, 4])))))))) (fun s5 h29 => kM (PJ.blockNormal (kLo h29 [0, 2, 3])))))
     ·have h31 := condT hb2 h4
      have hn616 := of_decide_eq_true hb2
      exact RJ.look (some 2) (d := some 33) (ef := ⟨.tup [iL x5, .bool true], [1], []⟩) (c := hitC (iM (nth x0 s0.1)) [(iM 45, iL x3), (iM 43, iL x4), (iM 37, iL x5), (iM 164, iL x6)] 2) (tr2 := []) (by kernel_rfl) (by simp [hitC, missC, sameB, sameE, hn594, hn605, hn616]) (kr 5 (kcN h31 (fun (s4 : Unit) => ([(0, .ptr 0 0), (2, .nl), (3, .vc 2)], [.box [lR x0, .mp 1, iL s0.1, iL x2], .map [(iM 45, iL x3), (iM 43, iL x4), (iM 37, iL x5), (iM 164, iL x6)], vecL encSt106 2 107 ((s0.2 ++ ([(⟨x5, 0⟩ : St106)] : List St106)))])) (fun s4 hy5 => kb 2 (kq (kT (km 4 (kAp 47 2 4 2 107 [2, 3] encSt106 hy5 (fun h33 => ke 1 (PJ.blockNormal (kNW h33 hFH hFD [0, 1, 4])))))))) (fun s4 h32 => kM (PJ.blockNormal (kLo h32 [0, 2, 3])))))
    ·have h34 := condT hb1 h3
     have hn605 := of_decide_eq_true hb1
     exact RJ.look (some 1) (d := some 33) (ef := ⟨.tup [iL x4, .bool true], [1], []⟩) (c := hitC (iM (nth x0 s0.1)) [(iM 45, iL x3), (iM 43, iL x4), (iM 37, iL x5), (iM 164, iL x6)] 1) (tr2 := []) (by kernel_rfl) (by simp [hitC, missC, sameB, sameE, hn594, hn605]) (kr 5 (kcN h34 (fun (s3 : Unit) => ([(0, .ptr 0 0), (2, .nl), (3, .vc 2)], [.box [lR x0, .mp 1, iL s0.1, iL x2], .map [(iM 45, iL x3), (iM 43, iL x4), (iM 37, iL x5), (iM 164, iL x6)], vecL encSt106 2 107 ((s0.2 ++ ([(⟨x4, 0⟩ : St106)] : List St106)))])) (fun s3 hy6 => kb 2 (kq (kT (km 4 (kAp 47 2 4 2 107 [2, 3] encSt106 hy6 (fun h36 => ke 1 (PJ.blockNormal (kNW h36 hFH hFD [0, 1, 4])))))))) (fun s3 h35 => kM (PJ.blockNormal (kLo h35 [0, 2, 3])))))
   ·have h37 := condT hb0 h2
    have hn594 := of_decide_eq_true hb0
    exact RJ.look (some 0) (d := some 33) (ef := ⟨.tup [iL x3, .bool true], [1], []⟩) (c := hitC (iM (nth x0 s0.1)) [(iM 45, iL x3), (iM 43, iL x4), (iM 37, iL x5), (iM 164, iL x6)] 0) (tr2 := []) (by kernel_rfl) (by simp [hitC, missC, sameB, sameE, hn594]) (kr 5 (kcN h37 (fun (s2 : Unit) => ([(0, .ptr 0 0), (2, .nl), (3, .vc 2)], [.box [lR x0, .mp 1, iL s0.1, iL x2], .map [(iM 45, iL x3), (iM 43, iL x4), (iM 37, iL x5), (iM 164, iL x6)], vecL encSt106 2 107 ((s0.2 ++ ([(⟨x3, 0⟩ : St106)] : List St106)))])) (fun s2 hy7 => kb 2 (kq (kT (km 4 (kAp 47 2 4 2 107 [2, 3] encSt106 hy7 (fun h39 => ke 1 (PJ.blockNormal (kNW h39 hFH hFD [0, 1, 4])))))))) (fun s2 h38 => kM (PJ.blockNormal (kLo h38 [0, 2, 3])))))
  ·exact kEp 0 (kLx h9 (fun h40 => PJ.blockOut (kXo h40 [2, 3])))
 ·exact kq (kX (by obtain rfl := oi h7; exact PJ.wk (Wk.freeze 2 (n := s1.2.length) (k := 2) (e := 107) (cs := s1.2.flatMap encSt106) (by kernel_rfl)) (kRV [0, 1] (.inr rfl) hFn hFH hFD)))
theorem pat_reader__affix_s0_ok0 {x0 : List Int} {x1 x2 x3 x4 x5 x6 : Int} {r : (List St106) × Int} (h : pat_reader__affix_s0 x0 x1 x2 x3 x4 x5 x6 = some (.inl r)) : SC Tryz.prog 163 [.ptr 0 0] [.box [lR x0, .mp 1, iL x1, iL x2], .map [(iM 45, iL x3), (iM 43, iL x4), (iM 37, iL x5), (iM 164, iL x6)]] (lsv encSt106 2 r.1) [.box [lR x0, .mp 1, iL r.2, iL x2], .map [(iM 45, iL x3), (iM 43, iL x4), (iM 37, iL x5), (iM 164, iL x6)]] := (pat_reader__affix_s0_okW h).1 _ rfl
theorem pat_reader__affix_s0_ok1 {x0 : List Int} {x1 x2 x3 x4 x5 x6 : Int} {r : Int × Int} (h : pat_reader__affix_s0 x0 x1 x2 x3 x4 x5 x6 = some (.inr r)) : SP Tryz.prog 163 [.ptr 0 0] [.box [lR x0, .mp 1, iL x1, iL x2], .map [(iM 45, iL x3), (iM 43, iL x4), (iM 37, iL x5), (iM 164, iL x6)]] [.box [.undef, .mp 1, iL r.1, iL r.2], .map [(iM 45, iL x3), (iM 43, iL x4), (iM 37, iL x5), (iM 164, iL x6)]] := (pat_reader__affix_s0_okW h).2 _ rfl
def pat_reader__pad_s1 (x0 : Int) (x1 : List Int) (x2 x3 x4 x5 x6 x7 : Int) (x8 : List St106) (x9 : Bool) (x10 x11 x12 x13 x14 x15 x16 x17 x18 : Int) (x19 : Bool) (x20 x21 : Int) : Option ((Int × Int × Int) ⊕ (Int × Int)) :=
 (Option.bind (Option.bind (bif (decide (¬ x21 = 0)) then (some (true, x2)) else (Option.bind (pat_reader__eat_s0 42 x1 x2 x3 x4 x5 x6 x7) fun y0 => (some ((!y0.1), y0.2)))) fun (s1 : Bool × Int) => (bif s1.1 then (some (.inr (.inl (s1.2, x20, x21)))) else (some (.inl s1.2)))) (joinX fun (s0 : Int) => (Option.bind (bif (decide (s0 = (x1.length : Int))) then (Option.bind (pat_reader__fail_s0 s0 x1 s0 x3 x4 x5 x6 x7) fun y1 => (some (.inr (.inr (s0, s0))))) else (some (.inl ()))) (joinX fun (s2 : Unit) => (bif inR s0 x1.length then (some (.inl ((IntKind.wrap .i64 (s0 + 1)), (nth x1 s0), x0))) else none)))))
theorem pat_reader__pad_s1_okW {x0 : Int} {x1 : List Int} {x2 x3 x4 x5 x6 x7 : Int} {x8 : List St106} {x9 : Bool} {x10 x11 x12 x13 x14 x15 x16 x17 x18 : Int} {x19 : Bool} {x20 x21 : Int} {r : (Int × Int × Int) ⊕ (Int × Int)} (h : pat_reader__pad_s1 x0 x1 x2 x3 x4 x5 x6 x7 x8 x9 x10 x11 x12 x13 x14 x15 x16 x17 x18 x19 x20 x21 = some r) : (∀ a, r = .inl a → SC Tryz.prog 162 [.ptr 0 0, .ptr 2 0, iL x0] [.box [lR x1, .mp 1, iL x2, iL x3], .map [(iM 45, iL x4), (iM 43, iL x5), (iM 37, iL x6), (iM 164, iL x7)], .box [lsv encSt106 2 x8, .nl, .nl, .nl, .bool x9, iL x10, iL x11, iL x12, iL x13, iL x14, iL x15, iL x16, iL x17, iL x18, .bool x19, iM x20, iL x21]] (.tup []) [.box [lR x1, .mp 1, iL a.1, iL x3], .map [(iM 45, iL x4), (iM 43, iL x5), (iM 37, iL x6), (iM 164, iL x7)], .box [lsv encSt106 2 x8, .nl, .nl, .nl, .bool x9, iL x10, iL x11, iL x12, iL x13, iL x14, iL x15, iL x16, iL x17, iL x18, .bool x19, iM a.2.1, iL a.2.2]]) ∧ (∀ a, r = .inr a → SP Tryz.prog 162 [.ptr 0 0, .ptr 2 0, iL x0] [.box [lR x1, .mp 1, iL x2, iL x3], .map [(iM 45, iL x4), (iM 43, iL x5), (iM 37, iL x6), (iM 164, iL x7)], .box [lsv encSt106 2 x8, .nl, .nl, .nl, .bool x9, iL x10, iL x11, iL x12, iL x13, iL x14, iL x15, iL x16, iL x17, iL x18, .bool x19, iM x20, iL x21]] [.box [.undef, .mp 1, iL a.1, iL a.2], .map [(iM 45, iL x4), (iM 43, iL x5), (iM 37, iL x6), (iM 164, iL x7)], .box [.undef, .undef, .undef, .undef, .bool x9, iL x10, iL x11, iL x12, iL x13, iL x14, iL x15, iL x16, iL x17, iL x18, .bool x19, iM x20, iL x21]]) := by
 refine kFnW (fn := Tryz.f162) _ _ _ (fun F hFn hFH hFD => ?_)
 unfold pat_reader__pad_s1 at h
 refine kcX h (fun (s0 : Int) => ([(0, .ptr 0 0), (1, .ptr 2 0), (2, iL x0)], [.box [lR x1, .mp 1, iL s0, iL x3], .map [(iM 45, iL x4), (iM 43, iL x5), (iM 37, iL x6), (iM 164, iL x7)], .box [lsv encSt106 2 x8, .nl, .nl, .nl, .bool x9, iL x10, iL x11, iL x12, iL x13, iL x14, iL x15, iL x16, iL x17, iL x18, .bool x19, iM x20, iL x21]])) (fun y2 hy0 h0 => ?_) (fun s0 h1 => ?_)
 ·refine kcN hy0 (fun (s1 : Bool × Int) => ([(0, .ptr 0 0), (1, .ptr 2 0), (2, iL x0), (15, .bool s1.1)], [.box [lR x1, .mp 1, iL s1.2, iL x3], .map [(iM 45, iL x4), (iM 43, iL x5), (iM 37, iL x6), (iM 164, iL x7)], .box [lsv encSt106 2 x8, .nl, .nl, .nl, .bool x9, iL x10, iL x11, iL x12, iL x13, iL x14, iL x15, iL x16, iL x17, iL x18, .bool x19, iM x20, iL x21]])) (fun s1 hy1 => ?_) (fun s1 h2 => ?_)
  ·refine km 6 (kB 11 hy1 (fun h3 => ?_) (fun h4 => ?_))
   ·exact ke 4 (kNo h3 [0, 1, 2, 15])
   ·refine kc 1 ?_
    obtain ⟨y0, hy2, h5⟩ := bindS h4
    exact kCg (some 13) [0, 1] (pat_reader__eat_s0_ok hy2) (ke 2 (kNo h5 [0, 1, 2, 15]))
  ·exact kBT 15 h2 (fun h6 => kX (kCx h6 h0 (fun h8 => by obtain rfl := oi h8; exact kRV [0, 1, 2] (.inr rfl) hFn hFH hFD))) (fun h7 => kK (kXo h7 [0, 1, 2]))
 ·refine kcX h1 (fun (s2 : Unit) => ([(0, .ptr 0 0), (1, .ptr 2 0), (2, iL x0)], [.box [lR x1, .mp 1, iL s0, iL x3], .map [(iM 45, iL x4), (iM 43, iL x5), (iM 37, iL x6), (iM 164, iL x7)], .box [lsv encSt106 2 x8, .nl, .nl, .nl, .bool x9, iL x10, iL x11, iL x12, iL x13, iL x14, iL x15, iL x16, iL x17, iL x18, .bool x19, iM x20, iL x21]])) (fun y3 hy3 h9 => ?_) (fun s2 h10 => ?_)
  ·refine kS (kDr (kD 10 (kEN (kBT 25 hy3 (fun h11 => ?_) (fun h12 => ?_)))))
   ·refine km 5 ?_
    obtain ⟨y1, hy4, h13⟩ := bindS h11
    refine kCP (some 31) [0, 1] (pat_reader__fail_s0_ok0 hy4) ?_
    obtain rfl := oi h13
    have h14 := joinX_inr h9
    exact PP.cutXr (by obtain rfl := oi h14; exact PP.wk (Wk.undefs 2 [true, true, true, true, false, false, false, false, false, false, false, false, false, false, false, false, false] (cs := [lsv encSt106 2 x8, .nl, .nl, .nl, .bool x9, iL x10, iL x11, iL x12, iL x13, iL x14, iL x15, iL x16, iL x17, iL x18, .bool x19, iM x20, iL x21]) (by kernel_rfl)) (kPV [0, 1, 2] hFH hFD))
   ·exact kK (kXo h12 [0, 1, 2])
  ·refine kS (kDr (kD 10 ?_))
   obtain ⟨hm, h15⟩ := asrt h10
   exact kJ 42 (tr2 := [([], []), ([], []), ([], []), ([], []), ([], []), ([0, 1], []), ([], []), ([], []), ([], []), ([0, 1], []), ([], [])]) (encI_len .i32) hm (kD 8 (kEN (kM (by obtain rfl := oi h15; exact kRV [0, 1, 2] (.inl rfl) hFn hFH hFD))))
theorem pat_reader__pad_s1_ok0 {x0 : Int} {x1 : List Int} {x2 x3 x4 x5 x6 x7 : Int} {x8 : List St106} {x9 : Bool} {x10 x11 x12 x13 x14 x15 x16 x17 x18 : Int} {x19 : Bool} {x20 x21 : Int} {r : Int × Int × Int} (h : pat_reader__pad_s1 x0 x1 x2 x3 x4 x5 x6 x7 x8 x9 x10 x11 x12 x13 x14 x15 x16 x17 x18 x19 x20 x21 = some (.inl r)) : SC Tryz.prog 162 [.ptr 0 0, .ptr 2 0, iL x0] [.box [lR x1, .mp 1, iL x2, iL x3], .map [(iM 45, iL x4), (iM 43, iL x5), (iM 37, iL x6), (iM 164, iL x7)], .box [lsv encSt106 2 x8, .nl, .nl, .nl, .bool x9, iL x10, iL x11, iL x12, iL x13, iL x14, iL x15, iL x16, iL x17, iL x18, .bool x19, iM x20, iL x21]] (.tup []) [.box [lR x1, .mp 1, iL r.1, iL x3], .map [(iM 45, iL x4), (iM 43, iL x5), (iM 37, iL x6), (iM 164, iL x7)], .box [lsv encSt106 2 x8, .nl, .nl, .nl, .bool x9, iL x10, iL x11, iL x12, iL x13, iL x14, iL x15, iL x16, iL x17, iL x18, .bool x19, iM r.2.1, iL r.2.2]] := (pat_reader__pad_s1_okW h).1 _ rfl
theorem pat_reader__pad_s1_ok1 {x0 : Int} {x1 : List Int} {x2 x3 x4 x5 x6 x7 : Int} {x8 : List St106} {x9 : Bool} {x10 x11 x12 x13 x14 x15 x16 x17 x18 : Int} {x19 : Bool} {x20 x21 : Int} {r : Int × Int} (h : pat_reader__pad_s1 x0 x1 x2 x3 x4 x5 x6 x7 x8 x9 x10 x11 x12 x13 x14 x15 x16 x17 x18 x19 x20 x21 = some (.inr r)) : SP Tryz.prog 162 [.ptr 0 0, .ptr 2 0, iL x0] [.box [lR x1, .mp 1, iL x2, iL x3], .map [(iM 45, iL x4), (iM 43, iL x5), (iM 37, iL x6), (iM 164, iL x7)], .box [lsv encSt106 2 x8, .nl, .nl, .nl, .bool x9, iL x10, iL x11, iL x12, iL x13, iL x14, iL x15, iL x16, iL x17, iL x18, .bool x19, iM x20, iL x21]] [.box [.undef, .mp 1, iL r.1, iL r.2], .map [(iM 45, iL x4), (iM 43, iL x5), (iM 37, iL x6), (iM 164, iL x7)], .box [.undef, .undef, .undef, .undef, .bool x9, iL x10, iL x11, iL x12, iL x13, iL x14, iL x15, iL x16, iL x17, iL x18, .bool x19, iM x20, iL x21]] := (pat_reader__pad_s1_okW h).2 _ rfl
def pat_reader__many_s0 (x0 : Int) (x1 : List Int) (x2 x3 x4 x5 x6 x7 : Int) : Option (Int × Int) :=
 (Option.bind (loopN (fun (s0 : Int × Int) => (Option.bind (pat_reader__eat_s0 x0 x1 s0.2 x3 x4 x5 x6 x7) fun y0 => (bif y0.1 then (some (.inl ((IntKind.wrap .i64 (s0.1 + 1)), y0.2))) else (some (.inr (s0.1, y0.2)))))) big (0, x2)) fun (s1 : Int × Int) => (some (s1.1, s1.2)))
theorem pat_reader__many_s0_ok {x0 : Int} {x1 : List Int} {x2 x3 x4 x5 x6 x7 : Int} {r : Int × Int} (h : pat_reader__many_s0 x0 x1 x2 x3 x4 x5 x6 x7 = some r) : SC Tryz.prog 184 [.ptr 0 0, iM x0] [.box [lR x1, .mp 1, iL x2, iL x3], .map [(iM 45, iL x4), (iM 43, iL x5), (iM 37, iL x6), (iM 164, iL x7)]] (iL r.1) [.box [lR x1, .mp 1, iL r.2, iL x3], .map [(iM 45, iL x4), (iM 43, iL x5), (iM 37, iL x6), (iM 164, iL x7)]] := by
 refine kFn (fn := Tryz.f184) (fun F hFn hFH hFD => ?_)
 unfold pat_reader__many_s0 at h
 refine kq (kq (kcN h (fun (s1 : Int × Int) => ([(4, iL 0), (5, iL s1.1)], [.box [lR x1, .mp 1, iL s1.2, iL x3], .map [(iM 45, iL x4), (iM 43, iL x5), (iM 37, iL x6), (iM 164, iL x7)]])) (fun s1 hy0 => ?_) (fun s1 h0 => ?_)))
 ·refine kb 0 (kl (fun (s0 : Int × Int) => ([(0, .ptr 0 0), (1, iM x0), (4, iL 0), (5, iL s0.1)], [.box [lR x1, .mp 1, iL s0.2, iL x3], .map [(iM 45, iL x4), (iM 43, iL x5), (iM 37, iL x6), (iM 164, iL x7)]])) hy0 [0, 1, 4, 5] (fun s0 x51 hs0 => kS (kn 2 ?_)))
  obtain ⟨y0, hy1, h1⟩ := bindS hs0
  exact kCg (some 8) [0, 1] (pat_reader__eat_s0_ok hy1) (kEN (kBT 8 h1 (fun h2 => kKN (kb 1 (kM (PJ.blockNormal (kLo h2 [0, 1, 4, 5]))))) (fun h3 => kEp 0 (kLx h3 (fun h4 => PJ.blockOut (kNo h4 [4, 5]))))))
 ·exact kq (kX (by obtain rfl := oi h0; exact kRV [0, 1] (.inr rfl) hFn hFH hFD))
def pat_reader__place_s0 (x0 : Int) (x1 : List Int) (x2 x3 x4 x5 x6 x7 : Int) (x8 : List St106) (x9 : Bool) (x10 x11 x12 x13 x14 x15 x16 x17 x18 : Int) (x19 : Bool) (x20 x21 : Int) : Option (Bool) :=
 (Option.bind (Option.bind (pat_reader__is_s0 48 x0 x1 x2 x3 x4 x5 x6 x7) fun y0 => (bif y0 then (some true) else (bif (decide (x11 = 0)) then (Option.bind (pat_reader__is_s0 35 x0 x1 x2 x3 x4 x5 x6 x7) fun y1 => (some y1)) else (some false)))) fun (s0 : Bool) => (some s0))
theorem pat_reader__place_s0_ok {x0 : Int} {x1 : List Int} {x2 x3 x4 x5 x6 x7 : Int} {x8 : List St106} {x9 : Bool} {x10 x11 x12 x13 x14 x15 x16 x17 x18 : Int} {x19 : Bool} {x20 x21 : Int} {r : Bool} (h : pat_reader__place_s0 x0 x1 x2 x3 x4 x5 x6 x7 x8 x9 x10 x11 x12 x13 x14 x15 x16 x17 x18 x19 x20 x21 = some r) : SC Tryz.prog 201 [.ptr 0 0, .ptr 2 0, iL x0] [.box [lR x1, .mp 1, iL x2, iL x3], .map [(iM 45, iL x4), (iM 43, iL x5), (iM 37, iL x6), (iM 164, iL x7)], .box [lsv encSt106 2 x8, .nl, .nl, .nl, .bool x9, iL x10, iL x11, iL x12, iL x13, iL x14, iL x15, iL x16, iL x17, iL x18, .bool x19, iM x20, iL x21]] (.bool r) [.box [lR x1, .mp 1, iL x2, iL x3], .map [(iM 45, iL x4), (iM 43, iL x5), (iM 37, iL x6), (iM 164, iL x7)], .box [lsv encSt106 2 x8, .nl, .nl, .nl, .bool x9, iL x10, iL x11, iL x12, iL x13, iL x14, iL x15, iL x16, iL x17, iL x18, .bool x19, iM x20, iL x21]] := by
 refine kFn (fn := Tryz.f201) (fun F hFn hFH hFD => ?_)
 unfold pat_reader__place_s0 at h
 refine kq (kcN h (fun (s0 : Bool) => ([(6, .bool s0)], [.box [lR x1, .mp 1, iL x2, iL x3], .map [(iM 45, iL x4), (iM 43, iL x5), (iM 37, iL x6), (iM 164, iL x7)], .box [lsv encSt106 2 x8, .nl, .nl, .nl, .bool x9, iL x10, iL x11, iL x12, iL x13, iL x14, iL x15, iL x16, iL x17, iL x18, .bool x19, iM x20, iL x21]])) (fun s0 hy0 => ?_) (fun s0 h0 => ?_))
 ·refine km 2 ?_
  obtain ⟨y0, hy1, h1⟩ := bindS hy0
  refine kCg (some 9) [0, 1] (pat_reader__is_s0_ok hy1) (kc 1 (kB 10 h1 (fun h2 => ?_) (fun h3 => ?_)))
  ·exact ke 12 (kNo h2 [6])
  ·refine kc 6 (kB 16 h3 (fun h4 => ?_) (fun h5 => ?_))
   ·refine kc 2 ?_
    obtain ⟨y1, hy2, h6⟩ := bindS h4
    exact kCg (some 19) [0, 1] (pat_reader__is_s0_ok hy2) (ke 3 (kNo h6 [6]))
   ·exact ke 6 (kNo h5 [6])
 ·exact kX (by obtain rfl := oi h0; exact kRV [0, 1, 2] (.inr rfl) hFn hFH hFD)
def pat_reader__comma_s0 (x0 : Int) (x1 : List Int) (x2 x3 x4 x5 x6 x7 : Int) (x8 : List St106) (x9 : Bool) (x10 x11 x12 x13 x14 x15 x16 x17 x18 : Int) (x19 : Bool) (x20 x21 : Int) : Option (Bool) :=
 (Option.bind (bif (decide (x0 > 0)) then (Option.bind (pat_reader__is_s0 44 0 x1 x2 x3 x4 x5 x6 x7) fun y0 => (bif y0 then (Option.bind (pat_reader__place_s0 1 x1 x2 x3 x4 x5 x6 x7 x8 x9 x10 x11 x12 x13 x14 x15 x16 x17 x18 x19 x20 x21) fun y1 => (some y1)) else (some false))) else (some false)) fun (s0 : Bool) => (some s0))
theorem pat_reader__comma_s0_ok {x0 : Int} {x1 : List Int} {x2 x3 x4 x5 x6 x7 : Int} {x8 : List St106} {x9 : Bool} {x10 x11 x12 x13 x14 x15 x16 x17 x18 : Int} {x19 : Bool} {x20 x21 : Int} {r : Bool} (h : pat_reader__comma_s0 x0 x1 x2 x3 x4 x5 x6 x7 x8 x9 x10 x11 x12 x13 x14 x15 x16 x17 x18 x19 x20 x21 = some r) : SC Tryz.prog 202 [.ptr 0 0, .ptr 2 0, iL x0] [.box [lR x1, .mp 1, iL x2, iL x3], .map [(iM 45, iL x4), (iM 43, iL x5), (iM 37, iL x6), (iM 164, iL x7)], .box [lsv encSt106 2 x8, .nl, .nl, .nl, .bool x9, iL x10, iL x11, iL x12, iL x13, iL x14, iL x15, iL x16, iL x17, iL x18, .bool x19, iM x20, iL x21]] (.bool r) [.box [lR x1, .mp 1, iL x2, iL x3], .map [(iM 45, iL x4), (iM 43, iL x5), (iM 37, iL x6), (iM 164, iL x7)], .box [lsv encSt106 2 x8, .nl, .nl, .nl, .bool x9, iL x10, iL x11, iL x12, iL x13, iL x14, iL x15, iL x16, iL x17, iL x18, .bool x19, iM x20, iL x21]] := by
 refine kFn (fn := Tryz.f202) (fun F hFn hFH hFD => ?_)
 unfold pat_reader__comma_s0 at h
 refine kq (kcN h (fun (s0 : Bool) => ([(6, .bool s0)], [.box [lR x1, .mp 1, iL x2, iL x3], .map [(iM 45, iL x4), (iM 43, iL x5), (iM 37, iL x6), (iM 164, iL x7)], .box [lsv encSt106 2 x8, .nl, .nl, .nl, .bool x9, iL x10, iL x11, iL x12, iL x13, iL x14, iL x15, iL x16, iL x17, iL x18, .bool x19, iM x20, iL x21]])) (fun s0 hy0 => ?_) (fun s0 h0 => ?_))
 ·refine km 3 (kB 9 hy0 (fun h1 => ?_) (fun h2 => ?_))
  ·refine kc 1 ?_
   obtain ⟨y0, hy1, h3⟩ := bindS h1
   refine kCg (some 11) [0, 1] (pat_reader__is_s0_ok hy1) (kc 2 (kB 13 h3 (fun h4 => ?_) (fun h5 => ?_)))
   ·refine kc 2 ?_
    obtain ⟨y1, hy2, h6⟩ := bindS h4
    exact kCg (some 16) [0, 1, 2] (pat_reader__place_s0_ok hy2) (ke 2 (kNo h6 [6]))
   ·exact ke 5 (kNo h5 [6])
  ·exact ke 9 (kNo h2 [6])
 ·exact kX (by obtain rfl := oi h0; exact kRV [0, 1, 2] (.inr rfl) hFn hFH hFD)
def pat_reader__between_s0 (x0 x1 : Int) (x2 : List Int) (x3 x4 x5 x6 x7 x8 : Int) (x9 : List St106) (x10 : Bool) (x11 x12 x13 x14 x15 x16 x17 x18 x19 : Int) (x20 : Bool) (x21 x22 : Int) : Option (Int ⊕ Unit) :=
 (Option.bind (Option.bind (bif (decide (x0 = 0)) then (some true) else (Option.bind (pat_reader__comma_s0 x1 x2 x3 x4 x5 x6 x7 x8 x9 x10 x11 x12 x13 x14 x15 x16 x17 x18 x19 x20 x21 x22) fun y0 => (some (!y0)))) fun (s0 : Bool) => (bif s0 then (some (.inr (.inl x16))) else (some (.inl ())))) (joinX fun (s2 : Unit) => (Option.bind (Option.bind (bif (decide (x0 > 1)) then (some (decide (¬ x1 = x16))) else (some false)) fun (s1 : Bool) => (bif s1 then (Option.bind (pat_reader__fail_s0 x3 x2 x3 x4 x5 x6 x7 x8) fun y1 => (some (.inr (.inr ())))) else (some (.inl ())))) (joinX fun (s3 : Unit) => (some (.inl x1))))))
theorem pat_reader__between_s0_okW {x0 x1 : Int} {x2 : List Int} {x3 x4 x5 x6 x7 x8 : Int} {x9 : List St106} {x10 : Bool} {x11 x12 x13 x14 x15 x16 x17 x18 x19 : Int} {x20 : Bool} {x21 x22 : Int} {r : Int ⊕ Unit} (h : pat_reader__between_s0 x0 x1 x2 x3 x4 x5 x6 x7 x8 x9 x10 x11 x12 x13 x14 x15 x16 x17 x18 x19 x20 x21 x22 = some r) : (∀ a, r = .inl a → SC Tryz.prog 203 [.ptr 0 0, .ptr 2 0, iL x0, iL x1] [.box [lR x2, .mp 1, iL x3, iL x4], .map [(iM 45, iL x5), (iM 43, iL x6), (iM 37, iL x7), (iM 164, iL x8)], .box [lsv encSt106 2 x9, .nl, .nl, .nl, .bool x10, iL x11, iL x12, iL x13, iL x14, iL x15, iL x16, iL x17, iL x18, iL x19, .bool x20, iM x21, iL x22]] (.tup []) [.box [lR x2, .mp 1, iL x3, iL x4], .map [(iM 45, iL x5), (iM 43, iL x6), (iM 37, iL x7), (iM 164, iL x8)], .box [lsv encSt106 2 x9, .nl, .nl, .nl, .bool x10, iL x11, iL x12, iL x13, iL x14, iL x15, iL a, iL x17, iL x18, iL x19, .bool x20, iM x21, iL x22]]) ∧ (∀ a, r = .inr a → SP Tryz.prog 203 [.ptr 0 0, .ptr 2 0, iL x0, iL x1] [.box [lR x2, .mp 1, iL x3, iL x4], .map [(iM 45, iL x5), (iM 43, iL x6), (iM 37, iL x7), (iM 164, iL x8)], .box [lsv encSt106 2 x9, .nl, .nl, .nl, .bool x10, iL x11, iL x12, iL x13, iL x14, iL x15, iL x16, iL x17, iL x18, iL x19, .bool x20, iM x21, iL x22]] [.box [.undef, .mp 1, iL x3, iL x3], .map [(iM 45, iL x5), (iM 43, iL x6), (iM 37, iL x7), (iM 164, iL x8)], .box [.undef, .undef, .undef, .undef, .bool x10, iL x11, iL x12, iL x13, iL x14, iL x15, iL x16, iL x17, iL x18, iL x19, .bool x20, iM x21, iL x22]]) := by
 refine kFnW (fn := Tryz.f203) _ _ _ (fun F hFn hFH hFD => ?_)
 unfold pat_reader__between_s0 at h
 refine kcX h (fun (s2 : Unit) => ([(0, .ptr 0 0), (1, .ptr 2 0), (2, iL x0), (3, iL x1)], [.box [lR x2, .mp 1, iL x3, iL x4], .map [(iM 45, iL x5), (iM 43, iL x6), (iM 37, iL x7), (iM 164, iL x8)], .box [lsv encSt106 2 x9, .nl, .nl, .nl, .bool x10, iL x11, iL x12, iL x13, iL x14, iL x15, iL x16, iL x17, iL x18, iL x19, .bool x20, iM x21, iL x22]])) (fun y2 hy0 h0 => ?_) (fun s2 h1 => ?_)
 ·refine kcN hy0 (fun (s0 : Bool) => ([(0, .ptr 0 0), (1, .ptr 2 0), (2, iL x0), (3, iL x1), (16, .bool s0)], [.box [lR x2, .mp 1, iL x3, iL x4], .map [(iM 45, iL x5), (iM 43, iL x6), (iM 37, iL x7), (iM 164, iL x8)], .box [lsv encSt106 2 x9, .nl, .nl, .nl, .bool x10, iL x11, iL x12, iL x13, iL x14, iL x15, iL x16, iL x17, iL x18, iL x19, .bool x20, iM x21, iL x22]])) (fun s0 hy1 => ?_) (fun s0 h2 => ?_)
  ·refine km 3 (kB 10 hy1 (fun h3 => ?_) (fun h4 => ?_))
   ·exact ke 6 (kNo h3 [0, 1, 2, 3, 16])
   ·refine kc 3 ?_
    obtain ⟨y0, hy2, h5⟩ := bindS h4
    exact kCg (some 14) [0, 1, 2] (pat_reader__comma_s0_ok hy2) (ke 2 (kNo h5 [0, 1, 2, 3, 16]))
  ·exact kBT 16 h2 (fun h6 => kX (kCx h6 h0 (fun h8 => by obtain rfl := oi h8; exact kRV [0, 1, 2] (.inr rfl) hFn hFH hFD))) (fun h7 => kK (kXo h7 [0, 1, 2, 3]))
 ·refine kcX h1 (fun (s3 : Unit) => ([(1, .ptr 2 0), (3, iL x1)], [.box [lR x2, .mp 1, iL x3, iL x4], .map [(iM 45, iL x5), (iM 43, iL x6), (iM 37, iL x7), (iM 164, iL x8)], .box [lsv encSt106 2 x9, .nl, .nl, .nl, .bool x10, iL x11, iL x12, iL x13, iL x14, iL x15, iL x16, iL x17, iL x18, iL x19, .bool x20, iM x21, iL x22]])) (fun y3 hy3 h9 => ?_) (fun s3 h10 => ?_)
  ·refine kcN hy3 (fun (s1 : Bool) => ([(0, .ptr 0 0), (1, .ptr 2 0), (3, iL x1), (26, .bool s1)], [.box [lR x2, .mp 1, iL x3, iL x4], .map [(iM 45, iL x5), (iM 43, iL x6), (iM 37, iL x7), (iM 164, iL x8)], .box [lsv encSt106 2 x9, .nl, .nl, .nl, .bool x10, iL x11, iL x12, iL x13, iL x14, iL x15, iL x16, iL x17, iL x18, iL x19, .bool x20, iM x21, iL x22]])) (fun s1 hy4 => ?_) (fun s1 h11 => ?_)
   ·exact km 3 (kB 19 hy4 (fun h12 => ke 7 (kNo h12 [0, 1, 3, 26])) (fun h13 => ke 7 (kNo h13 [0, 1, 3, 26])))
   ·refine kBT 26 h11 (fun h14 => ?_) (fun h15 => ?_)
    ·refine km 5 ?_
     obtain ⟨y1, hy5, h16⟩ := bindS h14
     refine kCP (some 32) [0, 1] (pat_reader__fail_s0_ok0 hy5) ?_
     obtain rfl := oi h16
     have h17 := joinX_inr h9
     exact PP.cutXr (by obtain rfl := oi h17; exact PP.wk (Wk.undefs 2 [true, true, true, true, false, false, false, false, false, false, false, false, false, false, false, false, false] (cs := [lsv encSt106 2 x9, .nl, .nl, .nl, .bool x10, iL x11, iL x12, iL x13, iL x14, iL x15, iL x16, iL x17, iL x18, iL x19, .bool x20, iM x21, iL x22]) (by kernel_rfl)) (kPV [0, 1, 2] hFH hFD))
    ·exact kK (kXo h15 [1, 3])
  ·exact kM (by obtain rfl := oi h10; exact kRV [0, 1, 2] (.inl rfl) hFn hFH hFD)
theorem pat_reader__between_s0_ok0 {x0 x1 : Int} {x2 : List Int} {x3 x4 x5 x6 x7 x8 : Int} {x9 : List St106} {x10 : Bool} {x11 x12 x13 x14 x15 x16 x17 x18 x19 : Int} {x20 : Bool} {x21 x22 r : Int} (h : pat_reader__between_s0 x0 x1 x2 x3 x4 x5 x6 x7 x8 x9 x10 x11 x12 x13 x14 x15 x16 x17 x18 x19 x20 x21 x22 = some (.inl r)) : SC Tryz.prog 203 [.ptr 0 0, .ptr 2 0, iL x0, iL x1] [.box [lR x2, .mp 1, iL x3, iL x4], .map [(iM 45, iL x5), (iM 43, iL x6), (iM 37, iL x7), (iM 164, iL x8)], .box [lsv encSt106 2 x9, .nl, .nl, .nl, .bool x10, iL x11, iL x12, iL x13, iL x14, iL x15, iL x16, iL x17, iL x18, iL x19, .bool x20, iM x21, iL x22]] (.tup []) [.box [lR x2, .mp 1, iL x3, iL x4], .map [(iM 45, iL x5), (iM 43, iL x6), (iM 37, iL x7), (iM 164, iL x8)], .box [lsv encSt106 2 x9, .nl, .nl, .nl, .bool x10, iL x11, iL x12, iL x13, iL x14, iL x15, iL r, iL x17, iL x18, iL x19, .bool x20, iM x21, iL x22]] := (pat_reader__between_s0_okW h).1 _ rfl
theorem pat_reader__between_s0_ok1 {x0 x1 : Int} {x2 : List Int} {x3 x4 x5 x6 x7 x8 : Int} {x9 : List St106} {x10 : Bool} {x11 x12 x13 x14 x15 x16 x17 x18 x19 : Int} {x20 : Bool} {x21 x22 : Int} {r : Unit} (h : pat_reader__between_s0 x0 x1 x2 x3 x4 x5 x6 x7 x8 x9 x10 x11 x12 x13 x14 x15 x16 x17 x18 x19 x20 x21 x22 = some (.inr r)) : SP Tryz.prog 203 [.ptr 0 0, .ptr 2 0, iL x0, iL x1] [.box [lR x2, .mp 1, iL x3, iL x4], .map [(iM 45, iL x5), (iM 43, iL x6), (iM 37, iL x7), (iM 164, iL x8)], .box [lsv encSt106 2 x9, .nl, .nl, .nl, .bool x10, iL x11, iL x12, iL x13, iL x14, iL x15, iL x16, iL x17, iL x18, iL x19, .bool x20, iM x21, iL x22]] [.box [.undef, .mp 1, iL x3, iL x3], .map [(iM 45, iL x5), (iM 43, iL x6), (iM 37, iL x7), (iM 164, iL x8)], .box [.undef, .undef, .undef, .undef, .bool x10, iL x11, iL x12, iL x13, iL x14, iL x15, iL x16, iL x17, iL x18, iL x19, .bool x20, iM x21, iL x22]] := (pat_reader__between_s0_okW h).2 _ rfl
def pat_reader__places_s0 (x0 : List Int) (x1 x2 x3 x4 x5 x6 : Int) (x7 : List St106) (x8 : Bool) (x9 x10 x11 x12 x13 x14 x15 x16 x17 : Int) (x18 : Bool) (x19 x20 : Int) : Option ((Int × Int × Int × Int × Int) ⊕ (Int × Int × Int × Int × Int)) :=
 (Option.bind (loopN (fun (s0 : Int × Int × Int × Int × Int × Int) => (Option.bind (Option.bind (Option.bind (pat_reader__place_s0 0 x0 s0.2.2.1 x2 x3 x4 x5 x6 x7 x8 s0.2.2.2.1 s0.2.2.2.2.1 x11 x12 x13 s0.2.2.2.2.2 x15 x16 x17 x18 x19 x20) fun y3 => (bif y3 then (some true) else (Option.bind (pat_reader__comma_s0 s0.2.1 x0 s0.2.2.1 x2 x3 x4 x5 x6 x7 x8 s0.2.2.2.1 s0.2.2.2.2.1 x11 x12 x13 s0.2.2.2.2.2 x15 x16 x17 x18 x19 x20) fun y4 => (some y4)))) fun (s3 : Bool) => (bif s3 then (some (.inl ())) else (some (.inr (.inr (.inl (s0.1, s0.2.1, s0.2.2.1, s0.2.2.2.1, s0.2.2.2.2.1, s0.2.2.2.2.2))))))) (joinX fun (s4 : Unit) => (Option.bind (pat_reader__eat_s0 44 x0 s0.2.2.1 x2 x3 x4 x5 x6) fun y0 => (bif y0.1 then (some (.inl ((IntKind.wrap .i64 (s0.1 + 1)), 0, y0.2, s0.2.2.2.1, s0.2.2.2.2.1, s0.2.2.2.2.2))) else (Option.bind (Option.bind (pat_reader__eat_s0 48 x0 y0.2 x2 x3 x4 x5 x6) fun y1 => (bif y1.1 then (some (y1.2, s0.2.2.2.1, (IntKind.wrap .i64 (s0.2.2.2.2.1 + 1)))) else (some ((IntKind.wrap .i64 (y1.2 + 1)), (IntKind.wrap .i64 (s0.2.2.2.1 + 1)), s0.2.2.2.2.1)))) fun (s2 : Int × Int × Int) => (Option.bind (pat_reader__between_s0 s0.1 (IntKind.wrap .i64 (s0.2.1 + 1)) x0 s2.1 x2 x3 x4 x5 x6 x7 x8 s2.2.1 s2.2.2 x11 x12 x13 s0.2.2.2.2.2 x15 x16 x17 x18 x19 x20) fun y2 => (Sum.elim (fun y5 => (some (.inl (s0.1, (IntKind.wrap .i64 (s0.2.1 + 1)), s2.1, s2.2.1, s2.2.2, y5)))) (fun y6 => (some (.inr (.inr (.inr (s2.1, s2.1, s2.2.1, s2.2.2, s0.2.2.2.2.2)))))) y2)))))))) big (0, 0, x1, x9, x10, x14)) (joinX fun (s1 : Int × Int × Int × Int × Int × Int) => (Option.bind (bif (decide ((IntKind.wrap .i64 (s1.2.2.2.1 + s1.2.2.2.2.1)) = 0)) then (Option.bind (pat_reader__fail_s0 s1.2.2.1 x0 s1.2.2.1 x2 x3 x4 x5 x6) fun y7 => (some (.inr (.inr (s1.2.2.1, s1.2.2.1, s1.2.2.2.1, s1.2.2.2.2.1, s1.2.2.2.2.2))))) else (some (.inl ()))) (joinX fun (s5 : Unit) => (bif (decide (s1.1 = 0)) then (some (.inl (s1.2.2.1, s1.2.2.2.1, s1.2.2.2.2.1, x13, s1.2.2.2.2.2))) else (bif (decide (s1.1 = 1)) then (some (.inl (s1.2.2.1, s1.2.2.2.1, s1.2.2.2.2.1, s1.2.1, s1.2.1))) else (some (.inl (s1.2.2.1, s1.2.2.2.1, s1.2.2.2.2.1, s1.2.1, s1.2.2.2.2.2)))))))))
theorem pat_reader__places_s0_okW {x0 : List Int} {x1 x2 x3 x4 x5 x6 : Int} {x7 : List St106} {x8 : Bool} {x9 x10 x11 x12 x13 x14 x15 x16 x17 : Int} {x18 : Bool} {x19 x20 : Int} {r : (Int × Int × Int × Int × Int) ⊕ (Int × Int × Int × Int × Int)} (h : pat_reader__places_s0 x0 x1 x2 x3 x4 x5 x6 x7 x8 x9 x10 x11 x12 x13 x14 x15 x16 x17 x18 x19 x20 = some r) : (∀ a, r = .inl a → SC Tryz.prog 185 [.ptr 0 0, .ptr 2 0] [.box [lR x0, .mp 1, iL x1, iL x2], .map [(iM 45, iL x3), (iM 43, iL x4), (iM 37, iL x5), (iM 164, iL x6)], .box [lsv encSt106 2 x7, .nl, .nl, .nl, .bool x8, iL x9, iL x10, iL x11, iL x12, iL x13, iL x14, iL x15, iL x16, iL x17, .bool x18, iM x19, iL x20]] (.tup []) [.box [lR x0, .mp 1, iL a.1, iL x2], .map [(iM 45, iL x3), (iM 43, iL x4), (iM 37, iL x5), (iM 164, iL x6)], .box [lsv encSt106 2 x7, .nl, .nl, .nl, .bool x8, iL a.2.1, iL a.2.2.1, iL x11, iL x12, iL a.2.2.2.1, iL a.2.2.2.2, iL x15, iL x16, iL x17, .bool x18, iM x19, iL x20]]) ∧ (∀ a, r = .inr a → SP Tryz.prog 185 [.ptr 0 0, .ptr 2 0] [.box [lR x0, .mp 1, iL x1, iL x2], .map [(iM 45, iL x3), (iM 43, iL x4), (iM 37, iL x5), (iM 164, iL x6)], .box [lsv encSt106 2 x7, .nl, .nl, .nl, .bool x8, iL x9, iL x10, iL x11, iL x12, iL x13, iL x14, iL x15, iL x16, iL x17, .bool x18, iM x19, iL x20]] [.box [.undef, .mp 1, iL a.1, iL a.2.1], .map [(iM 45, iL x3), (iM 43, iL x4), (iM 37, iL x5), (iM 164, iL x6)], .box [.undef, .undef, .undef, .undef, .bool x8, iL a.2.2.1, iL a.2.2.2.1, iL x11, iL x12, iL x13, iL a.2.2.2.2, iL x15, iL x16, iL x17, .bool x18, iM x19, iL x20]]) := by
 refine kFnW (fn := Tryz.f185) _ _ _ (fun F hFn hFH hFD => ?_)
 unfold pat_reader__places_s0 at h
 refine kq (kcX h (fun (s1 : Int × Int × Int × Int × Int × Int) => ([(0, .ptr 0 0), (1, .ptr 2 0), (4, iL s1.1), (5, iL s1.2.1)], [.box [lR x0, .mp 1, iL s1.2.2.1, iL x2], .map [(iM 45, iL x3), (iM 43, iL x4), (iM 37, iL x5), (iM 164, iL x6)], .box [lsv encSt106 2 x7, .nl, .nl, .nl, .bool x8, iL s1.2.2.2.1, iL s1.2.2.2.2.1, iL x11, iL x12, iL x13, iL s1.2.2.2.2.2, iL x15, iL x16, iL x17, .bool x18, iM x19, iL x20]])) (fun y8 hy1 h1 => ?_) (fun s1 h2 => ?_))
 ·refine kb 0 (kl (fun (s0 : Int × Int × Int × Int × Int × Int) => ([(0, .ptr 0 0), (1, .ptr 2 0), (4, iL s0.1), (5, iL s0.2.1)], [.box [lR x0, .mp 1, iL s0.2.2.1, iL x2], .map [(iM 45, iL x3), (iM 43, iL x4), (iM 37, iL x5), (iM 164, iL x6)], .box [lsv encSt106 2 x7, .nl, .nl, .nl, .bool x8, iL s0.2.2.2.1, iL s0.2.2.2.2.1, iL x11, iL x12, iL x13, iL s0.2.2.2.2.2, iL x15, iL x16, iL x17, .bool x18, iM x19, iL x20]])) hy1 [0, 1, 4, 5] (fun s0 x496 hs0 => kcX hs0 (fun (s4 : Unit) => ([(0, .ptr 0 0), (1, .ptr 2 0), (4, iL s0.1), (5, iL s0.2.1)], [.box [lR x0, .mp 1, iL s0.2.2.1, iL x2], .map [(iM 45, iL x3), (iM 43, iL x4), (iM 37, iL x5), (iM 164, iL x6)], .box [lsv encSt106 2 x7, .nl, .nl, .nl, .bool x8, iL s0.2.2.2.1, iL s0.2.2.2.2.1, iL x11, iL x12, iL x13, iL s0.2.2.2.2.2, iL x15, iL x16, iL x17, .bool x18, iM x19, iL x20]])) (fun y9 hy2 h3 => ?_) (fun s4 h4 => ?_)))
  ·refine kcN hy2 (fun (s3 : Bool) => ([(0, .ptr 0 0), (1, .ptr 2 0), (4, iL s0.1), (5, iL s0.2.1), (14, .bool s3)], [.box [lR x0, .mp 1, iL s0.2.2.1, iL x2], .map [(iM 45, iL x3), (iM 43, iL x4), (iM 37, iL x5), (iM 164, iL x6)], .box [lsv encSt106 2 x7, .nl, .nl, .nl, .bool x8, iL s0.2.2.2.1, iL s0.2.2.2.2.1, iL x11, iL x12, iL x13, iL s0.2.2.2.2.2, iL x15, iL x16, iL x17, .bool x18, iM x19, iL x20]])) (fun s3 hy3 => ?_) (fun s3 h5 => ?_)
   ·refine km 2 ?_
    obtain ⟨y3, hy4, h6⟩ := bindS hy3
    refine kCg (some 8) [0, 1, 2] (pat_reader__place_s0_ok hy4) (kc 1 (kB 9 h6 (fun h7 => ?_) (fun h8 => ?_)))
    ·exact ke 5 (kNo h7 [0, 1, 4, 5, 14])
    ·refine kc 3 ?_
     obtain ⟨y4, hy5, h9⟩ := bindS h8
     exact kCg (some 13) [0, 1, 2] (pat_reader__comma_s0_ok hy5) (ke 1 (kNo h9 [0, 1, 4, 5, 14]))
   ·exact kBT 14 h5 (fun h10 => kK (kXo h10 [0, 1, 4, 5])) (fun h11 => kEx 0 (kCx h11 h3 (fun h12 => kLx h12 (fun h13 => PJ.blockOut (kXo h13 [0, 1, 4, 5])))))
  ·refine kb 1 (kS (kn 1 ?_))
   obtain ⟨y0, hy6, h14⟩ := bindS h4
   refine kCg (some 16) [0, 1] (pat_reader__eat_s0_ok hy6) (kEN (kBT 16 h14 (fun h15 => ?_) (fun h16 => ?_)))
   ·exact kq (kq (kEp 1 (PJ.blockOut (kLo h15 [0, 1, 4, 5]))))
   ·refine kKN (kcN h16 (fun (s2 : Int × Int × Int) => ([(0, .ptr 0 0), (1, .ptr 2 0), (4, iL s0.1), (5, iL s0.2.1)], [.box [lR x0, .mp 1, iL s2.1, iL x2], .map [(iM 45, iL x3), (iM 43, iL x4), (iM 37, iL x5), (iM 164, iL x6)], .box [lsv encSt106 2 x7, .nl, .nl, .nl, .bool x8, iL s2.2.1, iL s2.2.2, iL x11, iL x12, iL x13, iL s0.2.2.2.2.2, iL x15, iL x16, iL x17, .bool x18, iM x19, iL x20]])) (fun s2 hy7 => ?_) (fun s2 h17 => ?_))
    ·refine kn 1 ?_
     obtain ⟨y1, hy8, h18⟩ := bindS hy7
     exact kCg (some 20) [0, 1] (pat_reader__eat_s0_ok hy8) (kEN (kBT 20 h18 (fun h19 => kM (kNo h19 [0, 1, 4, 5])) (fun h20 => kq (kM (kNo h20 [0, 1, 4, 5])))))
    ·refine kq (km 4 ?_)
     obtain ⟨y2, hy0, h0⟩ := bindS h17
     rcases y2 with y5 | y6
     ·have h21 := elimL h0
      exact kCg (some 48) [0, 1, 2] (pat_reader__between_s0_ok0 hy0) (kE (PJ.blockNormal (kLo h21 [0, 1, 4, 5])))
     ·have h22 := elimR h0
      refine kCP (some 48) [0, 1, 2] (pat_reader__between_s0_ok1 hy0) (PP.block ?_)
      obtain rfl := oi h22
      refine PP.loopOut (fun he1 => ?_)
      have h23 := congrArg some he1
      refine PP.block ?_
      obtain rfl := oi h23
      have h24 := joinX_inr h1
      exact PP.cutXr (by obtain rfl := oi h24; exact kPV [0, 1, 2] hFH hFD)
 ·refine kcX h2 (fun (s5 : Unit) => ([(1, .ptr 2 0), (4, iL s1.1), (5, iL s1.2.1)], [.box [lR x0, .mp 1, iL s1.2.2.1, iL x2], .map [(iM 45, iL x3), (iM 43, iL x4), (iM 37, iL x5), (iM 164, iL x6)], .box [lsv encSt106 2 x7, .nl, .nl, .nl, .bool x8, iL s1.2.2.2.1, iL s1.2.2.2.2.1, iL x11, iL x12, iL x13, iL s1.2.2.2.2.2, iL x15, iL x16, iL x17, .bool x18, iM x19, iL x20]])) (fun y10 hy9 h25 => ?_) (fun s5 h26 => ?_)
  ·refine kS (kDr (kD 10 (kEN (kBT 58 hy9 (fun h27 => ?_) (fun h28 => ?_)))))
   ·refine km 5 ?_
    obtain ⟨y7, hy10, h29⟩ := bindS h27
    refine kCP (some 64) [0, 1] (pat_reader__fail_s0_ok0 hy10) ?_
    obtain rfl := oi h29
    have h30 := joinX_inr h25
    exact PP.cutXr (by obtain rfl := oi h30; exact PP.wk (Wk.undefs 2 [true, true, true, true, false, false, false, false, false, false, false, false, false, false, false, false, false] (cs := [lsv encSt106 2 x7, .nl, .nl, .nl, .bool x8, iL s1.2.2.2.1, iL s1.2.2.2.2.1, iL x11, iL x12, iL x13, iL s1.2.2.2.2.2, iL x15, iL x16, iL x17, .bool x18, iM x19, iL x20]) (by kernel_rfl)) (kPV [0, 1, 2] hFH hFD))
   ·exact kK (kXo h28 [1, 4, 5])
  ·exact kq (kb 2 (kq (kBT 70 h26 (fun h31 => kKb (by obtain rfl := oi h31; exact kRV [0, 1, 2] (.inl rfl) hFn hFH hFD)) (fun h32 => kq (kBT 72 h32 (fun h33 => kM (PJ.blockNormal (by obtain rfl := oi h33; exact kRV [0, 1, 2] (.inl rfl) hFn hFH hFD))) (fun h34 => kM (PJ.blockNormal (by obtain rfl := oi h34; exact kRV [0, 1, 2] (.inl rfl) hFn hFH hFD))))))))
theorem pat_reader__places_s0_ok0 {x0 : List Int} {x1 x2 x3 x4 x5 x6 : Int} {x7 : List St106} {x8 : Bool} {x9 x10 x11 x12 x13 x14 x15 x16 x17 : Int} {x18 : Bool} {x19 x20 : Int} {r : Int × Int × Int × Int × Int} (h : pat_reader__places_s0 x0 x1 x2 x3 x4 x5 x6 x7 x8 x9 x10 x11 x12 x13 x14 x15 x16 x17 x18 x19 x20 = some (.inl r)) : SC Tryz.prog 185 [.ptr 0 0, .ptr 2 0] [.box [lR x0, .mp 1, iL x1, iL x2], .map [(iM 45, iL x3), (iM 43, iL x4), (iM 37, iL x5), (iM 164, iL x6)], .box [lsv encSt106 2 x7, .nl, .nl, .nl, .bool x8, iL x9, iL x10, iL x11, iL x12, iL x13, iL x14, iL x15, iL x16, iL x17, .bool x18, iM x19, iL x20]] (.tup []) [.box [lR x0, .mp 1, iL r.1, iL x2], .map [(iM 45, iL x3), (iM 43, iL x4), (iM 37, iL x5), (iM 164, iL x6)], .box [lsv encSt106 2 x7, .nl, .nl, .nl, .bool x8, iL r.2.1, iL r.2.2.1, iL x11, iL x12, iL r.2.2.2.1, iL r.2.2.2.2, iL x15, iL x16, iL x17, .bool x18, iM x19, iL x20]] := (pat_reader__places_s0_okW h).1 _ rfl
theorem pat_reader__places_s0_ok1 {x0 : List Int} {x1 x2 x3 x4 x5 x6 : Int} {x7 : List St106} {x8 : Bool} {x9 x10 x11 x12 x13 x14 x15 x16 x17 : Int} {x18 : Bool} {x19 x20 : Int} {r : Int × Int × Int × Int × Int} (h : pat_reader__places_s0 x0 x1 x2 x3 x4 x5 x6 x7 x8 x9 x10 x11 x12 x13 x14 x15 x16 x17 x18 x19 x20 = some (.inr r)) : SP Tryz.prog 185 [.ptr 0 0, .ptr 2 0] [.box [lR x0, .mp 1, iL x1, iL x2], .map [(iM 45, iL x3), (iM 43, iL x4), (iM 37, iL x5), (iM 164, iL x6)], .box [lsv encSt106 2 x7, .nl, .nl, .nl, .bool x8, iL x9, iL x10, iL x11, iL x12, iL x13, iL x14, iL x15, iL x16, iL x17, .bool x18, iM x19, iL x20]] [.box [.undef, .mp 1, iL r.1, iL r.2.1], .map [(iM 45, iL x3), (iM 43, iL x4), (iM 37, iL x5), (iM 164, iL x6)], .box [.undef, .undef, .undef, .undef, .bool x8, iL r.2.2.1, iL r.2.2.2.1, iL x11, iL x12, iL x13, iL r.2.2.2.2, iL x15, iL x16, iL x17, .bool x18, iM x19, iL x20]] := (pat_reader__places_s0_okW h).2 _ rfl
def pat_reader__fraction_s0 (x0 : List Int) (x1 x2 x3 x4 x5 x6 : Int) (x7 : List St106) (x8 : Bool) (x9 x10 x11 x12 x13 x14 x15 x16 x17 : Int) (x18 : Bool) (x19 x20 : Int) : Option ((Int × Int × Int) ⊕ (Int × Int × Int × Int)) :=
 (Option.bind (pat_reader__eat_s0 46 x0 x1 x2 x3 x4 x5 x6) fun y2 => (bif (!y2.1) then (some (.inl (y2.2, x11, x12))) else (Option.bind (pat_reader__many_s0 48 x0 y2.2 x2 x3 x4 x5 x6) fun y1 => (Option.bind (pat_reader__many_s0 35 x0 y1.2 x2 x3 x4 x5 x6) fun y0 => (bif (decide ((IntKind.wrap .i64 (y1.1 + y0.1)) = 0)) then (Option.bind (pat_reader__fail_s0 y0.2 x0 y0.2 x2 x3 x4 x5 x6) fun y3 => (some (.inr (y0.2, y0.2, y1.1, (IntKind.wrap .i64 (y1.1 + y0.1)))))) else (some (.inl (y0.2, y1.1, (IntKind.wrap .i64 (y1.1 + y0.1))))))))))
theorem pat_reader__fraction_s0_okW {x0 : List Int} {x1 x2 x3 x4 x5 x6 : Int} {x7 : List St106} {x8 : Bool} {x9 x10 x11 x12 x13 x14 x15 x16 x17 : Int} {x18 : Bool} {x19 x20 : Int} {r : (Int × Int × Int) ⊕ (Int × Int × Int × Int)} (h : pat_reader__fraction_s0 x0 x1 x2 x3 x4 x5 x6 x7 x8 x9 x10 x11 x12 x13 x14 x15 x16 x17 x18 x19 x20 = some r) : (∀ a, r = .inl a → SC Tryz.prog 186 [.ptr 0 0, .ptr 2 0] [.box [lR x0, .mp 1, iL x1, iL x2], .map [(iM 45, iL x3), (iM 43, iL x4), (iM 37, iL x5), (iM 164, iL x6)], .box [lsv encSt106 2 x7, .nl, .nl, .nl, .bool x8, iL x9, iL x10, iL x11, iL x12, iL x13, iL x14, iL x15, iL x16, iL x17, .bool x18, iM x19, iL x20]] (.tup []) [.box [lR x0, .mp 1, iL a.1, iL x2], .map [(iM 45, iL x3), (iM 43, iL x4), (iM 37, iL x5), (iM 164, iL x6)], .box [lsv encSt106 2 x7, .nl, .nl, .nl, .bool x8, iL x9, iL x10, iL a.2.1, iL a.2.2, iL x13, iL x14, iL x15, iL x16, iL x17, .bool x18, iM x19, iL x20]]) ∧ (∀ a, r = .inr a → SP Tryz.prog 186 [.ptr 0 0, .ptr 2 0] [.box [lR x0, .mp 1, iL x1, iL x2], .map [(iM 45, iL x3), (iM 43, iL x4), (iM 37, iL x5), (iM 164, iL x6)], .box [lsv encSt106 2 x7, .nl, .nl, .nl, .bool x8, iL x9, iL x10, iL x11, iL x12, iL x13, iL x14, iL x15, iL x16, iL x17, .bool x18, iM x19, iL x20]] [.box [.undef, .mp 1, iL a.1, iL a.2.1], .map [(iM 45, iL x3), (iM 43, iL x4), (iM 37, iL x5), (iM 164, iL x6)], .box [.undef, .undef, .undef, .undef, .bool x8, iL x9, iL x10, iL a.2.2.1, iL a.2.2.2, iL x13, iL x14, iL x15, iL x16, iL x17, .bool x18, iM x19, iL x20]]) := by
 refine kFnW (fn := Tryz.f186) _ _ _ (fun F hFn hFH hFD => ?_)
 unfold pat_reader__fraction_s0 at h
 refine kS (kn 1 ?_)
 obtain ⟨y2, hy0, h0⟩ := bindS h
 refine kCg (some 5) [0, 1] (pat_reader__eat_s0_ok hy0) (kr 1 (kBT 6 h0 (fun h1 => ?_) (fun h2 => ?_)))
 ·exact kX (PJ.passRet (by obtain rfl := oi h1; exact kRV [0, 1, 2] (.inr rfl) hFn hFH hFD))
 ·refine kKN (kn 2 ?_)
  obtain ⟨y1, hy1, h3⟩ := bindS h2
  refine kCg (some 9) [0, 1] (pat_reader__many_s0_ok hy1) (kr 3 (kS (kDr (kD 6 ?_))))
  obtain ⟨y0, hy2, h4⟩ := bindS h3
  refine RJ.callWr (d := (some 18)) (f := 184) (args := [.ptr 0 0, iM 35]) (args0 := [.ptr 0 0, iM 35]) (v0 := iL y0.1) (v := iL y0.1) (tr2 := [([], []), ([], []), ([], []), ([], []), ([4, 5], []), ([], []), ([0, 1, 2, 3], [0, 1, 2, 3, 6, 7])]) (H0 := [.box [lR x0, .mp 1, iL y1.2, iL x2], .map [(iM 45, iL x3), (iM 43, iL x4), (iM 37, iL x5), (iM 164, iL x6)]]) (H0' := [.box [lR x0, .mp 1, iL y0.2, iL x2], .map [(iM 45, iL x3), (iM 43, iL x4), (iM 37, iL x5), (iM 164, iL x6)]]) (H2 := [.box [lR x0, .mp 1, iL y0.2, iL x2], .map [(iM 45, iL x3), (iM 43, iL x4), (iM 37, iL x5), (iM 164, iL x6)], .box [lsv encSt106 2 x7, .nl, .nl, .nl, .bool x8, iL x9, iL x10, iL y1.1, iL x12, iL x13, iL x14, iL x15, iL x16, iL x17, .bool x18, iM x19, iL x20], .res]) [0, 1] (by kernel_rfl) (by kernel_rfl) (by kernel_rfl) (by kernel_rfl) (by decide) (by kernel_rfl) (by kernel_rfl) (by kernel_rfl) (.cons (Le.refl _) (.cons (Le.refl _) .nil)) (pat_reader__many_s0_ok hy2) (by kernel_rfl) (by kernel_rfl) (by kernel_rfl) (by kernel_rfl) (by kernel_rfl) (kD 4 (kEN (kq (kBT 26 h4 (fun h5 => ?_) (fun h6 => ?_)))))
  ·refine km 5 ?_
   obtain ⟨y3, hy3, h7⟩ := bindS h5
   exact kCP (some 32) [0, 1] (pat_reader__fail_s0_ok0 hy3) (by obtain rfl := oi h7; exact PP.wk (Wk.undefs 2 [true, true, true, true, false, false, false, false, false, false, false, false, false, false, false, false, false] (cs := [lsv encSt106 2 x7, .nl, .nl, .nl, .bool x8, iL x9, iL x10, iL y1.1, iL (IntKind.wrap .i64 (y1.1 + y0.1)), iL x13, iL x14, iL x15, iL x16, iL x17, .bool x18, iM x19, iL x20]) (by kernel_rfl)) (kPV [0, 1, 2] hFH hFD))
  ·exact kK (by obtain rfl := oi h6; exact kRV [0, 1, 2] (.inl rfl) hFn hFH hFD)
theorem pat_reader__fraction_s0_ok0 {x0 : List Int} {x1 x2 x3 x4 x5 x6 : Int} {x7 : List St106} {x8 : Bool} {x9 x10 x11 x12 x13 x14 x15 x16 x17 : Int} {x18 : Bool} {x19 x20 : Int} {r : Int × Int × Int} (h : pat_reader__fraction_s0 x0 x1 x2 x3 x4 x5 x6 x7 x8 x9 x10 x11 x12 x13 x14 x15 x16 x17 x18 x19 x20 = some (.inl r)) : SC Tryz.prog 186 [.ptr 0 0, .ptr 2 0] [.box [lR x0, .mp 1, iL x1, iL x2], .map [(iM 45, iL x3), (iM 43, iL x4), (iM 37, iL x5), (iM 164, iL x6)], .box [lsv encSt106 2 x7, .nl, .nl, .nl, .bool x8, iL x9, iL x10, iL x11, iL x12, iL x13, iL x14, iL x15, iL x16, iL x17, .bool x18, iM x19, iL x20]] (.tup []) [.box [lR x0, .mp 1, iL r.1, iL x2], .map [(iM 45, iL x3), (iM 43, iL x4), (iM 37, iL x5), (iM 164, iL x6)], .box [lsv encSt106 2 x7, .nl, .nl, .nl, .bool x8, iL x9, iL x10, iL r.2.1, iL r.2.2, iL x13, iL x14, iL x15, iL x16, iL x17, .bool x18, iM x19, iL x20]] := (pat_reader__fraction_s0_okW h).1 _ rfl
theorem pat_reader__fraction_s0_ok1 {x0 : List Int} {x1 x2 x3 x4 x5 x6 : Int} {x7 : List St106} {x8 : Bool} {x9 x10 x11 x12 x13 x14 x15 x16 x17 : Int} {x18 : Bool} {x19 x20 : Int} {r : Int × Int × Int × Int} (h : pat_reader__fraction_s0 x0 x1 x2 x3 x4 x5 x6 x7 x8 x9 x10 x11 x12 x13 x14 x15 x16 x17 x18 x19 x20 = some (.inr r)) : SP Tryz.prog 186 [.ptr 0 0, .ptr 2 0] [.box [lR x0, .mp 1, iL x1, iL x2], .map [(iM 45, iL x3), (iM 43, iL x4), (iM 37, iL x5), (iM 164, iL x6)], .box [lsv encSt106 2 x7, .nl, .nl, .nl, .bool x8, iL x9, iL x10, iL x11, iL x12, iL x13, iL x14, iL x15, iL x16, iL x17, .bool x18, iM x19, iL x20]] [.box [.undef, .mp 1, iL r.1, iL r.2.1], .map [(iM 45, iL x3), (iM 43, iL x4), (iM 37, iL x5), (iM 164, iL x6)], .box [.undef, .undef, .undef, .undef, .bool x8, iL x9, iL x10, iL r.2.2.1, iL r.2.2.2, iL x13, iL x14, iL x15, iL x16, iL x17, .bool x18, iM x19, iL x20]] := (pat_reader__fraction_s0_okW h).2 _ rfl
def pat_reader__number_s0 (x0 : List Int) (x1 x2 x3 x4 x5 x6 : Int) (x7 : List St106) (x8 : Bool) (x9 x10 x11 x12 x13 x14 x15 x16 x17 : Int) (x18 : Bool) (x19 x20 : Int) : Option ((Int × Int × Int × Int × Int × Int × Int × Int × Int × Int × Bool) ⊕ (Int × Int × Int × Int × Int × Int × Int × Int × Int × Int × Int × Bool)) :=
 (Option.bind (pat_reader__many_s0 64 x0 x1 x2 x3 x4 x5 x6) fun y0 => (Option.bind (bif (decide (y0.1 > 0)) then (Option.bind (pat_reader__many_s0 35 x0 y0.2 x2 x3 x4 x5 x6) fun y3 => (some (.inl (y3.2, x9, x10, x11, x12, x13, x14, (IntKind.wrap .i64 (y0.1 + y3.1)))))) else (Option.bind (pat_reader__places_s0 x0 y0.2 x2 x3 x4 x5 x6 x7 x8 x9 x10 x11 x12 x13 x14 y0.1 x16 x17 x18 x19 x20) fun y9 => (Sum.elim (fun y1 => (Option.bind (pat_reader__fraction_s0 x0 y1.1 x2 x3 x4 x5 x6 x7 x8 y1.2.1 y1.2.2.1 x11 x12 y1.2.2.2.1 y1.2.2.2.2 y0.1 x16 x17 x18 x19 x20) fun y10 => (Sum.elim (fun y7 => (some (.inl (y7.1, y1.2.1, y1.2.2.1, y7.2.1, y7.2.2, y1.2.2.2.1, y1.2.2.2.2, x16)))) (fun y5 => (some (.inr (.inr (y5.1, y5.2.1, y1.2.1, y1.2.2.1, y5.2.2.1, y5.2.2.2, y1.2.2.2.1, y1.2.2.2.2, y0.1, x16, x17, x18))))) y10))) (fun y4 => (some (.inr (.inr (y4.1, y4.2.1, y4.2.2.1, y4.2.2.2.1, x11, x12, x13, y4.2.2.2.2, y0.1, x16, x17, x18))))) y9))) (joinX fun (s0 : Int × Int × Int × Int × Int × Int × Int × Int) => (Option.bind (pat_reader__eat_s0 69 x0 s0.1 x2 x3 x4 x5 x6) fun y8 => (bif (!y8.1) then (some (.inl (y8.2, s0.2.1, s0.2.2.1, s0.2.2.2.1, s0.2.2.2.2.1, s0.2.2.2.2.2.1, s0.2.2.2.2.2.2.1, y0.1, s0.2.2.2.2.2.2.2, x17, x18))) else (Option.bind (pat_reader__eat_s0 43 x0 y8.2 x2 x3 x4 x5 x6) fun y6 => (Option.bind (pat_reader__many_s0 48 x0 y6.2 x2 x3 x4 x5 x6) fun y2 => (bif (decide (y2.1 = 0)) then (Option.bind (pat_reader__fail_s0 y2.2 x0 y2.2 x2 x3 x4 x5 x6) fun y11 => (some (.inr (y2.2, y2.2, s0.2.1, s0.2.2.1, s0.2.2.2.1, s0.2.2.2.2.1, s0.2.2.2.2.2.1, s0.2.2.2.2.2.2.1, y0.1, s0.2.2.2.2.2.2.2, y2.1, y6.1)))) else (some (.inl (y2.2, s0.2.1, s0.2.2.1, s0.2.2.2.1, s0.2.2.2.2.1, s0.2.2.2.2.2.1, s0.2.2.2.2.2.2.1, y0.1, s0.2.2.2.2.2.2.2, y2.1, y6.1)))))))))))
theorem pat_reader__number_s0_okW {x0 : List Int} {x1 x2 x3 x4 x5 x6 : Int} {x7 : List St106} {x8 : Bool} {x9 x10 x11 x12 x13 x14 x15 x16 x17 : Int} {x18 : Bool} {x19 x20 : Int} {r : (Int × Int × Int × Int × Int × Int × Int × Int × Int × Int × Bool) ⊕ (Int × Int × Int × Int × Int × Int × Int × Int × Int × Int × Int × Bool)} (h : pat_reader__number_s0 x0 x1 x2 x3 x4 x5 x6 x7 x8 x9 x10 x11 x12 x13 x14 x15 x16 x17 x18 x19 x20 = some r) : (∀ a, r = .inl a → SC Tryz.prog 164 [.ptr 0 0, .ptr 2 0] [.box [lR x0, .mp 1, iL x1, iL x2], .map [(iM 45, iL x3), (iM 43, iL x4), (iM 37, iL x5), (iM 164, iL x6)], .box [lsv encSt106 2 x7, .nl, .nl, .nl, .bool x8, iL x9, iL x10, iL x11, iL x12, iL x13, iL x14, iL x15, iL x16, iL x17, .bool x18, iM x19, iL x20]] (.tup []) [.box [lR x0, .mp 1, iL a.1, iL x2], .map [(iM 45, iL x3), (iM 43, iL x4), (iM 37, iL x5), (iM 164, iL x6)], .box [lsv encSt106 2 x7, .nl, .nl, .nl, .bool x8, iL a.2.1, iL a.2.2.1, iL a.2.2.2.1, iL a.2.2.2.2.1, iL a.2.2.2.2.2.1, iL a.2.2.2.2.2.2.1, iL a.2.2.2.2.2.2.2.1, iL a.2.2.2.2.2.2.2.2.1, iL a.2.2.2.2.2.2.2.2.2.1, .bool a.2.2.2.2.2.2.2.2.2.2, iM x19, iL x20]]) ∧ (∀ a, r = .inr a → SP Tryz.prog 164 [.ptr 0 0, .ptr 2 0] [.box [lR x0, .mp 1, iL x1, iL x2], .map [(iM 45, iL x3), (iM 43, iL x4), (iM 37, iL x5), (iM 164, iL x6)], .box [lsv encSt106 2 x7, .nl, .nl, .nl, .bool x8, iL x9, iL x10, iL x11, iL x12, iL x13, iL x14, iL x15, iL x16, iL x17, .bool x18, iM x19, iL x20]] [.box [.undef, .mp 1, iL a.1, iL a.2.1], .map [(iM 45, iL x3), (iM 43, iL x4), (iM 37, iL x5), (iM 164, iL x6)], .box [.undef, .undef, .undef, .undef, .bool x8, iL a.2.2.1, iL a.2.2.2.1, iL a.2.2.2.2.1, iL a.2.2.2.2.2.1, iL a.2.2.2.2.2.2.1, iL a.2.2.2.2.2.2.2.1, iL a.2.2.2.2.2.2.2.2.1, iL a.2.2.2.2.2.2.2.2.2.1, iL a.2.2.2.2.2.2.2.2.2.2.1, .bool a.2.2.2.2.2.2.2.2.2.2.2, iM x19, iL x20]]) := by
 refine kFnW (fn := Tryz.f164) _ _ _ (fun F hFn hFH hFD => ?_)
 unfold pat_reader__number_s0 at h
 refine kn 2 ?_
 obtain ⟨y0, hy2, h3⟩ := bindS h
 refine kCg (some 6) [0, 1] (pat_reader__many_s0_ok hy2) (kr 3 (kcX h3 (fun (s0 : Int × Int × Int × Int × Int × Int × Int × Int) => ([(0, .ptr 0 0), (1, .ptr 2 0)], [.box [lR x0, .mp 1, iL s0.1, iL x2], .map [(iM 45, iL x3), (iM 43, iL x4), (iM 37, iL x5), (iM 164, iL x6)], .box [lsv encSt106 2 x7, .nl, .nl, .nl, .bool x8, iL s0.2.1, iL s0.2.2.1, iL s0.2.2.2.1, iL s0.2.2.2.2.1, iL s0.2.2.2.2.2.1, iL s0.2.2.2.2.2.2.1, iL y0.1, iL s0.2.2.2.2.2.2.2, iL x17, .bool x18, iM x19, iL x20]])) (fun y12 hy3 h0 => ?_) (fun s0 h4 => ?_)))
 ·refine kq (kBT 13 hy3 (fun h5 => ?_) (fun h6 => ?_))
  ·refine kDr (kD 6 ?_)
   obtain ⟨y3, hy4, h7⟩ := bindS h5
   exact RJ.callWr (d := (some 20)) (f := 184) (args := [.ptr 0 0, iM 35]) (args0 := [.ptr 0 0, iM 35]) (v0 := iL y3.1) (v := iL y3.1) (tr2 := [([], []), ([], []), ([], []), ([], []), ([4, 5], []), ([], []), ([0, 1, 2, 3], [0, 1, 2, 3, 6, 7])]) (H0 := [.box [lR x0, .mp 1, iL y0.2, iL x2], .map [(iM 45, iL x3), (iM 43, iL x4), (iM 37, iL x5), (iM 164, iL x6)]]) (H0' := [.box [lR x0, .mp 1, iL y3.2, iL x2], .map [(iM 45, iL x3), (iM 43, iL x4), (iM 37, iL x5), (iM 164, iL x6)]]) (H2 := [.box [lR x0, .mp 1, iL y3.2, iL x2], .map [(iM 45, iL x3), (iM 43, iL x4), (iM 37, iL x5), (iM 164, iL x6)], .box [lsv encSt106 2 x7, .nl, .nl, .nl, .bool x8, iL x9, iL x10, iL x11, iL x12, iL x13, iL x14, iL y0.1, iL x16, iL x17, .bool x18, iM x19, iL x20], .res]) [0, 1] (by kernel_rfl) (by kernel_rfl) (by kernel_rfl) (by kernel_rfl) (by decide) (by kernel_rfl) (by kernel_rfl) (by kernel_rfl) (.cons (Le.refl _) (.cons (Le.refl _) .nil)) (pat_reader__many_s0_ok hy4) (by kernel_rfl) (by kernel_rfl) (by kernel_rfl) (by kernel_rfl) (by kernel_rfl) (kD 4 (kE (kXW h7 hFH hFD [0, 1, 2])))
  ·refine kn 2 ?_
   obtain ⟨y9, hy0, h1⟩ := bindS h6
   rcases y9 with y1 | y4
   ·have h8 := elimL h1
    refine kCg (some 26) [0, 1, 2] (pat_reader__places_s0_ok0 hy0) (kEN (km 2 ?_))
    obtain ⟨y10, hy1, h2⟩ := bindS h8
    rcases y10 with y7 | y5
    ·have h9 := elimL h2
     exact kCg (some 29) [0, 1, 2] (pat_reader__fraction_s0_ok0 hy1) (kE (kXo h9 [0, 1]))
    ·have h10 := elimR h2
     refine kCP (some 29) [0, 1, 2] (pat_reader__fraction_s0_ok1 hy1) ?_
     obtain rfl := oi h10
     have h11 := joinX_inr h0
     exact PP.cutXr (by obtain rfl := oi h11; exact kPV [0, 1, 2] hFH hFD)
   ·have h12 := elimR h1
    refine kCP (some 26) [0, 1, 2] (pat_reader__places_s0_ok1 hy0) (PP.next ?_)
    obtain rfl := oi h12
    have h13 := joinX_inr h0
    exact PP.cutXr (by obtain rfl := oi h13; exact kPV [0, 1, 2] hFH hFD)
 ·refine kS (kn 1 ?_)
  obtain ⟨y8, hy5, h14⟩ := bindS h4
  refine kCg (some 31) [0, 1] (pat_reader__eat_s0_ok hy5) (kr 1 (kBT 32 h14 (fun h15 => ?_) (fun h16 => ?_)))
  ·exact kX (PJ.passRet (by obtain rfl := oi h15; exact kRV [0, 1, 2] (.inr rfl) hFn hFH hFD))
  ·refine kKN (kn 2 ?_)
   obtain ⟨y6, hy6, h17⟩ := bindS h16
   refine kCg (some 35) [0, 1] (pat_reader__eat_s0_ok hy6) (kr 3 (kn 2 ?_))
   obtain ⟨y2, hy7, h18⟩ := bindS h17
   refine kCg (some 40) [0, 1] (pat_reader__many_s0_ok hy7) (kr 3 (kq (kBT 47 h18 (fun h19 => ?_) (fun h20 => ?_))))
   ·refine km 5 ?_
    obtain ⟨y11, hy8, h21⟩ := bindS h19
    exact kCP (some 53) [0, 1] (pat_reader__fail_s0_ok0 hy8) (by obtain rfl := oi h21; exact PP.wk (Wk.undefs 2 [true, true, true, true, false, false, false, false, false, false, false, false, false, false, false, false, false] (cs := [lsv encSt106 2 x7, .nl, .nl, .nl, .bool x8, iL s0.2.1, iL s0.2.2.1, iL s0.2.2.2.1, iL s0.2.2.2.2.1, iL s0.2.2.2.2.2.1, iL s0.2.2.2.2.2.2.1, iL y0.1, iL s0.2.2.2.2.2.2.2, iL y2.1, .bool y6.1, iM x19, iL x20]) (by kernel_rfl)) (kPV [0, 1, 2] hFH hFD))
   ·exact kK (by obtain rfl := oi h20; exact kRV [0, 1, 2] (.inl rfl) hFn hFH hFD)
theorem pat_reader__number_s0_ok0 {x0 : List Int} {x1 x2 x3 x4 x5 x6 : Int} {x7 : List St106} {x8 : Bool} {x9 x10 x11 x12 x13 x14 x15 x16 x17 : Int} {x18 : Bool} {x19 x20 : Int} {r : Int × Int × Int × Int × Int × Int × Int × Int × Int × Int × Bool} (h : pat_reader__number_s0 x0 x1 x2 x3 x4 x5 x6 x7 x8 x9 x10 x11 x12 x13 x14 x15 x16 x17 x18 x19 x20 = some (.inl r)) : SC Tryz.prog 164 [.ptr 0 0, .ptr 2 0] [.box [lR x0, .mp 1, iL x1, iL x2], .map [(iM 45, iL x3), (iM 43, iL x4), (iM 37, iL x5), (iM 164, iL x6)], .box [lsv encSt106 2 x7, .nl, .nl, .nl, .bool x8, iL x9, iL x10, iL x11, iL x12, iL x13, iL x14, iL x15, iL x16, iL x17, .bool x18, iM x19, iL x20]] (.tup []) [.box [lR x0, .mp 1, iL r.1, iL x2], .map [(iM 45, iL x3), (iM 43, iL x4), (iM 37, iL x5), (iM 164, iL x6)], .box [lsv encSt106 2 x7, .nl, .nl, .nl, .bool x8, iL r.2.1, iL r.2.2.1, iL r.2.2.2.1, iL r.2.2.2.2.1, iL r.2.2.2.2.2.1, iL r.2.2.2.2.2.2.1, iL r.2.2.2.2.2.2.2.1, iL r.2.2.2.2.2.2.2.2.1, iL r.2.2.2.2.2.2.2.2.2.1, .bool r.2.2.2.2.2.2.2.2.2.2, iM x19, iL x20]] := (pat_reader__number_s0_okW h).1 _ rfl
theorem pat_reader__number_s0_ok1 {x0 : List Int} {x1 x2 x3 x4 x5 x6 : Int} {x7 : List St106} {x8 : Bool} {x9 x10 x11 x12 x13 x14 x15 x16 x17 : Int} {x18 : Bool} {x19 x20 : Int} {r : Int × Int × Int × Int × Int × Int × Int × Int × Int × Int × Int × Bool} (h : pat_reader__number_s0 x0 x1 x2 x3 x4 x5 x6 x7 x8 x9 x10 x11 x12 x13 x14 x15 x16 x17 x18 x19 x20 = some (.inr r)) : SP Tryz.prog 164 [.ptr 0 0, .ptr 2 0] [.box [lR x0, .mp 1, iL x1, iL x2], .map [(iM 45, iL x3), (iM 43, iL x4), (iM 37, iL x5), (iM 164, iL x6)], .box [lsv encSt106 2 x7, .nl, .nl, .nl, .bool x8, iL x9, iL x10, iL x11, iL x12, iL x13, iL x14, iL x15, iL x16, iL x17, .bool x18, iM x19, iL x20]] [.box [.undef, .mp 1, iL r.1, iL r.2.1], .map [(iM 45, iL x3), (iM 43, iL x4), (iM 37, iL x5), (iM 164, iL x6)], .box [.undef, .undef, .undef, .undef, .bool x8, iL r.2.2.1, iL r.2.2.2.1, iL r.2.2.2.2.1, iL r.2.2.2.2.2.1, iL r.2.2.2.2.2.2.1, iL r.2.2.2.2.2.2.2.1, iL r.2.2.2.2.2.2.2.2.1, iL r.2.2.2.2.2.2.2.2.2.1, iL r.2.2.2.2.2.2.2.2.2.2.1, .bool r.2.2.2.2.2.2.2.2.2.2.2, iM x19, iL x20]] := (pat_reader__number_s0_okW h).2 _ rfl
def pat_reader__pad_s2 (x0 : Int) (x1 : List Int) (x2 x3 x4 x5 x6 x7 : Int) (x8 x9 : List St106) (x10 : Bool) (x11 x12 x13 x14 x15 x16 x17 x18 x19 : Int) (x20 : Bool) (x21 x22 : Int) : Option ((Int × Int × Int) ⊕ (Int × Int)) :=
 (Option.bind (Option.bind (bif (decide (¬ x22 = 0)) then (some (true, x2)) else (Option.bind (pat_reader__eat_s0 42 x1 x2 x3 x4 x5 x6 x7) fun y0 => (some ((!y0.1), y0.2)))) fun (s1 : Bool × Int) => (bif s1.1 then (some (.inr (.inl (s1.2, x21, x22)))) else (some (.inl s1.2)))) (joinX fun (s0 : Int) => (Option.bind (bif (decide (s0 = (x1.length : Int))) then (Option.bind (pat_reader__fail_s0 s0 x1 s0 x3 x4 x5 x6 x7) fun y1 => (some (.inr (.inr (s0, s0))))) else (some (.inl ()))) (joinX fun (s2 : Unit) => (bif inR s0 x1.length then (some (.inl ((IntKind.wrap .i64 (s0 + 1)), (nth x1 s0), x0))) else none)))))
theorem pat_reader__pad_s2_okW {x0 : Int} {x1 : List Int} {x2 x3 x4 x5 x6 x7 : Int} {x8 x9 : List St106} {x10 : Bool} {x11 x12 x13 x14 x15 x16 x17 x18 x19 : Int} {x20 : Bool} {x21 x22 : Int} {r : (Int × Int × Int) ⊕ (Int × Int)} (h : pat_reader__pad_s2 x0 x1 x2 x3 x4 x5 x6 x7 x8 x9 x10 x11 x12 x13 x14 x15 x16 x17 x18 x19 x20 x21 x22 = some r) : (∀ a, r = .inl a → SC Tryz.prog 162 [.ptr 0 0, .ptr 2 0, iL x0] [.box [lR x1, .mp 1, iL x2, iL x3], .map [(iM 45, iL x4), (iM 43, iL x5), (iM 37, iL x6), (iM 164, iL x7)], .box [lsv encSt106 2 x8, lsv encSt106 2 x9, .nl, .nl, .bool x10, iL x11, iL x12, iL x13, iL x14, iL x15, iL x16, iL x17, iL x18, iL x19, .bool x20, iM x21, iL x22]] (.tup []) [.box [lR x1, .mp 1, iL a.1, iL x3], .map [(iM 45, iL x4), (iM 43, iL x5), (iM 37, iL x6), (iM 164, iL x7)], .box [lsv encSt106 2 x8, lsv encSt106 2 x9, .nl, .nl, .bool x10, iL x11, iL x12, iL x13, iL x14, iL x15, iL x16, iL x17, iL x18, iL x19, .bool x20, iM a.2.1, iL a.2.2]]) ∧ (∀ a, r = .inr a → SP Tryz.prog 162 [.ptr 0 0, .ptr 2 0, iL x0] [.box [lR x1, .mp 1, iL x2, iL x3], .map [(iM 45, iL x4), (iM 43, iL x5), (iM 37, iL x6), (iM 164, iL x7)], .box [lsv encSt106 2 x8, lsv encSt106 2 x9, .nl, .nl, .bool x10, iL x11, iL x12, iL x13, iL x14, iL x15, iL x16, iL x17, iL x18, iL x19, .bool x20, iM x21, iL x22]] [.box [.undef, .mp 1, iL a.1, iL a.2], .map [(iM 45, iL x4), (iM 43, iL x5), (iM 37, iL x6), (iM 164, iL x7)], .box [.undef, .undef, .undef, .undef, .bool x10, iL x11, iL x12, iL x13, iL x14, iL x15, iL x16, iL x17, iL x18, iL x19, .bool x20, iM x21, iL x22]]) := by
 refine kFnW (fn := Tryz.f162) _ _ _ (fun F hFn hFH hFD => ?_)
 unfold pat_reader__pad_s2 at h
 refine kcX h (fun (s0 : Int) => ([(0, .ptr 0 0), (1, .ptr 2 0), (2, iL x0)], [.box [lR x1, .mp 1, iL s0, iL x3], .map [(iM 45, iL x4), (iM 43, iL x5), (iM 37, iL x6), (iM 164, iL x7)], .box [lsv encSt106 2 x8, lsv encSt106 2 x9, .nl, .nl, .bool x10, iL x11, iL x12, iL x13, iL x14, iL x15, iL x16, iL x17, iL x18, iL x19, .bool x20, iM x21, iL x22]])) (fun y2 hy0 h0 => ?_) (fun s0 h1 => ?_)
 ·refine kcN hy0 (fun (s1 : Bool × Int) => ([(0, .ptr 0 0), (1, .ptr 2 0), (2, iL x0), (15, .bool s1.1)], [.box [lR x1, .mp 1, iL s1.2, iL x3], .map [(iM 45, iL x4), (iM 43, iL x5), (iM 37, iL x6), (iM 164, iL x7)], .box [lsv encSt106 2 x8, lsv encSt106 2 x9, .nl, .nl, .bool x10, iL x11, iL x12, iL x13, iL x14, iL x15, iL x16, iL x17, iL x18, iL x19, .bool x20, iM x21, iL x22]])) (fun s1 hy1 => ?_) (fun s1 h2 => ?_)
  ·refine km 6 (kB 11 hy1 (fun h3 => ?_) (fun h4 => ?_))
   ·exact ke 4 (kNo h3 [0, 1, 2, 15])
   ·refine kc 1 ?_
    obtain ⟨y0, hy2, h5⟩ := bindS h4
    exact kCg (some 13) [0, 1] (pat_reader__eat_s0_ok hy2) (ke 2 (kNo h5 [0, 1, 2, 15]))
  ·exact kBT 15 h2 (fun h6 => kX (kCx h6 h0 (fun h8 => by obtain rfl := oi h8; exact kRV [0, 1, 2] (.inr rfl) hFn hFH hFD))) (fun h7 => kK (kXo h7 [0, 1, 2]))
 ·refine kcX h1 (fun (s2 : Unit) => ([(0, .ptr 0 0), (1, .ptr 2 0), (2, iL x0)], [.box [lR x1, .mp 1, iL s0, iL x3], .map [(iM 45, iL x4), (iM 43, iL x5), (iM 37, iL x6), (iM 164, iL x7)], .box [lsv encSt106 2 x8, lsv encSt106 2 x9, .nl, .nl, .bool x10, iL x11, iL x12, iL x13, iL x14, iL x15, iL x16, iL x17, iL x18, iL x19, .bool x20, iM x21, iL x22]])) (fun y3 hy3 h9 => ?_) (fun s2 h10 => ?_)
  ·refine kS (kDr (kD 10 (kEN (kBT 25 hy3 (fun h11 => ?_) (fun h12 => ?_)))))
   ·refine km 5 ?_
    obtain ⟨y1, hy4, h13⟩ := bindS h11
    refine kCP (some 31) [0, 1] (pat_reader__fail_s0_ok0 hy4) ?_
    obtain rfl := oi h13
    have h14 := joinX_inr h9
    exact PP.cutXr (by obtain rfl := oi h14; exact PP.wk (Wk.undefs 2 [true, true, true, true, false, false, false, false, false, false, false, false, false, false, false, false, false] (cs := [lsv encSt106 2 x8, lsv encSt106 2 x9, .nl, .nl, .bool x10, iL x11, iL x12, iL x13, iL x14, iL x15, iL x16, iL x17, iL x18, iL x19, .bool x20, iM x21, iL x22]) (by kernel_rfl)) (kPV [0, 1, 2] hFH hFD))
   ·exact kK (kXo h12 [0, 1, 2])
  ·refine kS (kDr (kD 10 ?_))
   obtain ⟨hm, h15⟩ := asrt h10
   exact kJ 42 (tr2 := [([], []), ([], []), ([], []), ([], []), ([], []), ([0, 1], []), ([], []), ([], []), ([], []), ([0, 1], []), ([], [])]) (encI_len .i32) hm (kD 8 (kEN (kM (by obtain rfl := oi h15; exact kRV [0, 1, 2] (.inl rfl) hFn hFH hFD))))
theorem pat_reader__pad_s2_ok0 {x0 : Int} {x1 : List Int} {x2 x3 x4 x5 x6 x7 : Int} {x8 x9 : List St106} {x10 : Bool} {x11 x12 x13 x14 x15 x16 x17 x18 x19 : Int} {x20 : Bool} {x21 x22 : Int} {r : Int × Int × Int} (h : pat_reader__pad_s2 x0 x1 x2 x3 x4 x5 x6 x7 x8 x9 x10 x11 x12 x13 x14 x15 x16 x17 x18 x19 x20 x21 x22 = some (.inl r)) : SC Tryz.prog 162 [.ptr 0 0, .ptr 2 0, iL x0] [.box [lR x1, .mp 1, iL x2, iL x3], .map [(iM 45, iL x4), (iM 43, iL x5), (iM 37, iL x6), (iM 164, iL x7)], .box [lsv encSt106 2 x8, lsv encSt106 2 x9, .nl, .nl, .bool x10, iL x11, iL x12, iL x13, iL x14, iL x15, iL x16, iL x17, iL x18, iL x19, .bool x20, iM x21, iL x22]] (.tup []) [.box [lR x1, .mp 1, iL r.1, iL x3], .map [(iM 45, iL x4), (iM 43, iL x5), (iM 37, iL x6), (iM 164, iL x7)], .box [lsv encSt106 2 x8, lsv encSt106 2 x9, .nl, .nl, .bool x10, iL x11, iL x12, iL x13, iL x14, iL x15, iL x16, iL x17, iL x18, iL x19, .bool x20, iM r.2.1, iL r.2.2]] := (pat_reader__pad_s2_okW h).1 _ rfl
theorem pat_reader__pad_s2_ok1 {x0 : Int} {x1 : List Int} {x2 x3 x4 x5 x6 x7 : Int} {x8 x9 : List St106} {x10 : Bool} {x11 x12 x13 x14 x15 x16 x17 x18 x19 : Int} {x20 : Bool} {x21 x22 : Int} {r : Int × Int} (h : pat_reader__pad_s2 x0 x1 x2 x3 x4 x5 x6 x7 x8 x9 x10 x11 x12 x13 x14 x15 x16 x17 x18 x19 x20 x21 x22 = some (.inr r)) : SP Tryz.prog 162 [.ptr 0 0, .ptr 2 0, iL x0] [.box [lR x1, .mp 1, iL x2, iL x3], .map [(iM 45, iL x4), (iM 43, iL x5), (iM 37, iL x6), (iM 164, iL x7)], .box [lsv encSt106 2 x8, lsv encSt106 2 x9, .nl, .nl, .bool x10, iL x11, iL x12, iL x13, iL x14, iL x15, iL x16, iL x17, iL x18, iL x19, .bool x20, iM x21, iL x22]] [.box [.undef, .mp 1, iL r.1, iL r.2], .map [(iM 45, iL x4), (iM 43, iL x5), (iM 37, iL x6), (iM 164, iL x7)], .box [.undef, .undef, .undef, .undef, .bool x10, iL x11, iL x12, iL x13, iL x14, iL x15, iL x16, iL x17, iL x18, iL x19, .bool x20, iM x21, iL x22]] := (pat_reader__pad_s2_okW h).2 _ rfl
def pat_reader__negative_s0 (x0 x1 : List Int) (x2 x3 x4 x5 x6 x7 : Int) (x8 x9 : List St106) (x10 : Bool) (x11 x12 x13 x14 x15 x16 x17 x18 x19 : Int) (x20 : Bool) (x21 x22 : Int) : Option ((Int × (List St106) × (List St106)) ⊕ (Int × Int)) :=
 (Option.bind (pat_reader__affix_s0 x1 x2 x3 x4 x5 x6 x7) fun y2 => (Sum.elim (fun y0 => (Option.bind (loopN (fun (s0 : Int × Int) => (bif (decide (s0.1 < (x0.length : Int))) then (Option.bind (bif inR s0.1 x0.length then (Option.bind (pat_reader__eat_s0 (nth x0 s0.1) x1 s0.2 x3 x4 x5 x6 x7) fun y1 => (bif (!y1.1) then (Option.bind (pat_reader__fail_s0 y1.2 x1 y1.2 x3 x4 x5 x6 x7) fun y7 => (some (.inr (.inr (.inr (.inr (y1.2, y1.2))))))) else (some (.inl y1.2)))) else none) (joinX fun (s1 : Int) => (some (.inl ((IntKind.wrap .i64 (s0.1 + 1)), s1))))) else (some (.inr (.inl s0.2))))) big (0, y0.2)) (joinX fun (s2 : Int) => (Option.bind (pat_reader__affix_s0 x1 s2 x3 x4 x5 x6 x7) fun y3 => (Sum.elim (fun y4 => (some (.inl (y4.2, y0.1, y4.1)))) (fun y5 => (some (.inr (y5.1, y5.2)))) y3))))) (fun y6 => (some (.inr (y6.1, y6.2)))) y2))
theorem pat_reader__negative_s0_okW {x0 x1 : List Int} {x2 x3 x4 x5 x6 x7 : Int} {x8 x9 : List St106} {x10 : Bool} {x11 x12 x13 x14 x15 x16 x17 x18 x19 : Int} {x20 : Bool} {x21 x22 : Int} {r : (Int × (List St106) × (List St106)) ⊕ (Int × Int)} (h : pat_reader__negative_s0 x0 x1 x2 x3 x4 x5 x6 x7 x8 x9 x10 x11 x12 x13 x14 x15 x16 x17 x18 x19 x20 x21 x22 = some r) : (∀ a, r = .inl a → SC Tryz.prog 166 [.ptr 0 0, .ptr 2 0, lR x0] [.box [lR x1, .mp 1, iL x2, iL x3], .map [(iM 45, iL x4), (iM 43, iL x5), (iM 37, iL x6), (iM 164, iL x7)], .box [lsv encSt106 2 x8, lsv encSt106 2 x9, .nl, .nl, .bool x10, iL x11, iL x12, iL x13, iL x14, iL x15, iL x16, iL x17, iL x18, iL x19, .bool x20, iM x21, iL x22]] (.tup []) [.box [lR x1, .mp 1, iL a.1, iL x3], .map [(iM 45, iL x4), (iM 43, iL x5), (iM 37, iL x6), (iM 164, iL x7)], .box [lsv encSt106 2 x8, lsv encSt106 2 x9, lsv encSt106 2 a.2.1, lsv encSt106 2 a.2.2, .bool true, iL x11, iL x12, iL x13, iL x14, iL x15, iL x16, iL x17, iL x18, iL x19, .bool x20, iM x21, iL x22]]) ∧ (∀ a, r = .inr a → SP Tryz.prog 166 [.ptr 0 0, .ptr 2 0, lR x0] [.box [lR x1, .mp 1, iL x2, iL x3], .map [(iM 45, iL x4), (iM 43, iL x5), (iM 37, iL x6), (iM 164, iL x7)], .box [lsv encSt106 2 x8, lsv encSt106 2 x9, .nl, .nl, .bool x10, iL x11, iL x12, iL x13, iL x14, iL x15, iL x16, iL x17, iL x18, iL x19, .bool x20, iM x21, iL x22]] [.box [.undef, .mp 1, iL a.1, iL a.2], .map [(iM 45, iL x4), (iM 43, iL x5), (iM 37, iL x6), (iM 164, iL x7)], .box [.undef, .undef, .undef, .undef, .bool true, iL x11, iL x12, iL x13, iL x14, iL x15, iL x16, iL x17, iL x18, iL x19, .bool x20, iM x21, iL x22]]) := by
 refine kFnW (fn := Tryz.f166) _ _ _ (fun F hFn hFH hFD => ?_)
 unfold pat_reader__negative_s0 at h
 refine kq (kn 2 ?_)
 obtain ⟨y2, hy0, h0⟩ := bindS h
 rcases y2 with y0 | y6
 ·have h2 := elimL h0
  refine kCg (some 13) [0, 1] (pat_reader__affix_s0_ok0 hy0) (kr 3 (kcX h2 (fun (s2 : Int) => ([(0, .ptr 0 0), (1, .ptr 2 0)], [.box [lR x1, .mp 1, iL s2, iL x3], .map [(iM 45, iL x4), (iM 43, iL x5), (iM 37, iL x6), (iM 164, iL x7)], .box [lsv encSt106 2 x8, lsv encSt106 2 x9, lsv encSt106 2 y0.1, .nl, .bool true, iL x11, iL x12, iL x13, iL x14, iL x15, iL x16, iL x17, iL x18, iL x19, .bool x20, iM x21, iL x22]])) (fun y8 hy2 h3 => ?_) (fun s2 h4 => ?_)))
  ·refine kq (kb 0 (kl (fun (s0 : Int × Int) => ([(0, .ptr 0 0), (1, .ptr 2 0), (16, lR x0), (17, iL (x0.length : Int)), (18, iL s0.1)], [.box [lR x1, .mp 1, iL s0.2, iL x3], .map [(iM 45, iL x4), (iM 43, iL x5), (iM 37, iL x6), (iM 164, iL x7)], .box [lsv encSt106 2 x8, lsv encSt106 2 x9, lsv encSt106 2 y0.1, .nl, .bool true, iL x11, iL x12, iL x13, iL x14, iL x15, iL x16, iL x17, iL x18, iL x19, .bool x20, iM x21, iL x22]])) hy2 [0, 1, 16, 17, 18] (fun s0 x218 hs0 => kq (kS (kBT 19 hs0 (fun h5 => ?_) (fun h6 => ?_))))))
   ·refine kKN (kcX h5 (fun (s1 : Int) => ([(0, .ptr 0 0), (1, .ptr 2 0), (16, lR x0), (17, iL (x0.length : Int)), (18, iL s0.1)], [.box [lR x1, .mp 1, iL s1, iL x3], .map [(iM 45, iL x4), (iM 43, iL x5), (iM 37, iL x6), (iM 164, iL x7)], .box [lsv encSt106 2 x8, lsv encSt106 2 x9, lsv encSt106 2 y0.1, .nl, .bool true, iL x11, iL x12, iL x13, iL x14, iL x15, iL x16, iL x17, iL x18, iL x19, .bool x20, iM x21, iL x22]])) (fun y9 hy3 h7 => ?_) (fun s1 h8 => ?_))
    ·refine kb 1 (kSR (kIb 20 (encI_len .i32) hy3 (fun h9 => kr 2 (kn 2 ?_))))
     obtain ⟨y1, hy4, h10⟩ := bindS h9
     refine kCg (some 24) [0, 1] (pat_reader__eat_s0_ok hy4) (kr 1 (kBT 25 h10 (fun h11 => ?_) (fun h12 => ?_)))
     ·refine km 5 ?_
      obtain ⟨y7, hy5, h13⟩ := bindS h11
      refine kCP (some 31) [0, 1] (pat_reader__fail_s0_ok0 hy5) (PP.block ?_)
      obtain rfl := oi h13
      have h14 := joinX_inr h7
      refine PP.cutXr ?_
      obtain rfl := oi h14
      refine PP.loopOut (fun he0 => ?_)
      have h15 := congrArg some he0
      refine PP.block ?_
      obtain rfl := oi h15
      have h16 := joinX_inr h3
      exact PP.cutXr (by obtain rfl := oi h16; exact PP.wk (Wk.undefs 2 [true, true, true, true, false, false, false, false, false, false, false, false, false, false, false, false, false] (cs := [lsv encSt106 2 x8, lsv encSt106 2 x9, lsv encSt106 2 y0.1, .nl, .bool true, iL x11, iL x12, iL x13, iL x14, iL x15, iL x16, iL x17, iL x18, iL x19, .bool x20, iM x21, iL x22]) (by kernel_rfl)) (kPV [0, 1, 2] hFH hFD))
     ·exact kKb (kXo h12 [0, 1, 16, 17, 18])
    ·exact kM (kLo h8 [0, 1, 16, 17, 18])
   ·exact kEp 0 (kLx h6 (fun h17 => PJ.blockOut (kXo h17 [0, 1])))
  ·refine km 2 ?_
   obtain ⟨y3, hy1, h1⟩ := bindS h4
   rcases y3 with y4 | y5
   ·have h18 := elimL h1
    exact kCg (some 35) [0, 1] (pat_reader__affix_s0_ok0 hy1) (ke 3 (by obtain rfl := oi h18; exact kRV [0, 1, 2] (.inl rfl) hFn hFH hFD))
   ·have h19 := elimR h1
    exact kCP (some 35) [0, 1] (pat_reader__affix_s0_ok1 hy1) (by obtain rfl := oi h19; exact PP.wk (Wk.undefs 2 [true, true, true, true, false, false, false, false, false, false, false, false, false, false, false, false, false] (cs := [lsv encSt106 2 x8, lsv encSt106 2 x9, lsv encSt106 2 y0.1, .nl, .bool true, iL x11, iL x12, iL x13, iL x14, iL x15, iL x16, iL x17, iL x18, iL x19, .bool x20, iM x21, iL x22]) (by kernel_rfl)) (kPV [0, 1, 2] hFH hFD))
 ·have h20 := elimR h0
  exact kCP (some 13) [0, 1] (pat_reader__affix_s0_ok1 hy0) (PP.next (by obtain rfl := oi h20; exact PP.wk (Wk.undefs 2 [true, true, true, true, false, false, false, false, false, false, false, false, false, false, false, false, false] (cs := [lsv encSt106 2 x8, lsv encSt106 2 x9, .nl, .nl, .bool true, iL x11, iL x12, iL x13, iL x14, iL x15, iL x16, iL x17, iL x18, iL x19, .bool x20, iM x21, iL x22]) (by kernel_rfl)) (kPV [0, 1, 2] hFH hFD)))
theorem pat_reader__negative_s0_ok0 {x0 x1 : List Int} {x2 x3 x4 x5 x6 x7 : Int} {x8 x9 : List St106} {x10 : Bool} {x11 x12 x13 x14 x15 x16 x17 x18 x19 : Int} {x20 : Bool} {x21 x22 : Int} {r : Int × (List St106) × (List St106)} (h : pat_reader__negative_s0 x0 x1 x2 x3 x4 x5 x6 x7 x8 x9 x10 x11 x12 x13 x14 x15 x16 x17 x18 x19 x20 x21 x22 = some (.inl r)) : SC Tryz.prog 166 [.ptr 0 0, .ptr 2 0, lR x0] [.box [lR x1, .mp 1, iL x2, iL x3], .map [(iM 45, iL x4), (iM 43, iL x5), (iM 37, iL x6), (iM 164, iL x7)], .box [lsv encSt106 2 x8, lsv encSt106 2 x9, .nl, .nl, .bool x10, iL x11, iL x12, iL x13, iL x14, iL x15, iL x16, iL x17, iL x18, iL x19, .bool x20, iM x21, iL x22]] (.tup []) [.box [lR x1, .mp 1, iL r.1, iL x3], .map [(iM 45, iL x4), (iM 43, iL x5), (iM 37, iL x6), (iM 164, iL x7)], .box [lsv encSt106 2 x8, lsv encSt106 2 x9, lsv encSt106 2 r.2.1, lsv encSt106 2 r.2.2, .bool true, iL x11, iL x12, iL x13, iL x14, iL x15, iL x16, iL x17, iL x18, iL x19, .bool x20, iM x21, iL x22]] := (pat_reader__negative_s0_okW h).1 _ rfl
theorem pat_reader__negative_s0_ok1 {x0 x1 : List Int} {x2 x3 x4 x5 x6 x7 : Int} {x8 x9 : List St106} {x10 : Bool} {x11 x12 x13 x14 x15 x16 x17 x18 x19 : Int} {x20 : Bool} {x21 x22 : Int} {r : Int × Int} (h : pat_reader__negative_s0 x0 x1 x2 x3 x4 x5 x6 x7 x8 x9 x10 x11 x12 x13 x14 x15 x16 x17 x18 x19 x20 x21 x22 = some (.inr r)) : SP Tryz.prog 166 [.ptr 0 0, .ptr 2 0, lR x0] [.box [lR x1, .mp 1, iL x2, iL x3], .map [(iM 45, iL x4), (iM 43, iL x5), (iM 37, iL x6), (iM 164, iL x7)], .box [lsv encSt106 2 x8, lsv encSt106 2 x9, .nl, .nl, .bool x10, iL x11, iL x12, iL x13, iL x14, iL x15, iL x16, iL x17, iL x18, iL x19, .bool x20, iM x21, iL x22]] [.box [.undef, .mp 1, iL r.1, iL r.2], .map [(iM 45, iL x4), (iM 43, iL x5), (iM 37, iL x6), (iM 164, iL x7)], .box [.undef, .undef, .undef, .undef, .bool true, iL x11, iL x12, iL x13, iL x14, iL x15, iL x16, iL x17, iL x18, iL x19, .bool x20, iM x21, iL x22]] := (pat_reader__negative_s0_okW h).2 _ rfl
def pat_reader__pattern_s0 (x0 : List Int) (x1 x2 x3 x4 x5 x6 : Int) : Option ((St32 × Int) ⊕ (Int × Int)) :=
 (Option.bind (pat_reader__pad_s0 1 x0 x1 x2 x3 x4 x5 x6 false 0 0 0 0 0 0 0 0 0 false 0 0) fun y9 => (Sum.elim (fun y4 => (Option.bind (pat_reader__affix_s0 x0 y4.1 x2 x3 x4 x5 x6) fun y10 => (Sum.elim (fun y1 => (Option.bind (bif (decide ((y1.1.length : Int) > 0)) then (Option.bind (pat_reader__pad_s1 2 x0 y1.2 x2 x3 x4 x5 x6 y1.1 false 0 0 0 0 0 0 0 0 0 false y4.2.1 y4.2.2) fun y11 => (Sum.elim (fun y5 => (some (.inl (y5.1, y5.2.1, y5.2.2)))) (fun y12 => (some (.inr (.inr (y12.1, y12.2))))) y11)) else (some (.inl (y1.2, y4.2.1, y4.2.2)))) (joinX fun (s0 : Int × Int × Int) => (Option.bind (pat_reader__number_s0 x0 s0.1 x2 x3 x4 x5 x6 y1.1 false 0 0 0 0 0 0 0 0 0 false s0.2.1 s0.2.2) fun y13 => (Sum.elim (fun y0 => (bif inS s0.1 y0.1 x0.length then (Option.bind (pat_reader__pad_s1 3 x0 y0.1 x2 x3 x4 x5 x6 y1.1 false y0.2.1 y0.2.2.1 y0.2.2.2.1 y0.2.2.2.2.1 y0.2.2.2.2.2.1 y0.2.2.2.2.2.2.1 y0.2.2.2.2.2.2.2.1 y0.2.2.2.2.2.2.2.2.1 y0.2.2.2.2.2.2.2.2.2.1 y0.2.2.2.2.2.2.2.2.2.2 s0.2.1 s0.2.2) fun y14 => (Sum.elim (fun y3 => (Option.bind (pat_reader__affix_s0 x0 y3.1 x2 x3 x4 x5 x6) fun y15 => (Sum.elim (fun y2 => (Option.bind (bif (decide ((y2.1.length : Int) > 0)) then (Option.bind (pat_reader__pad_s2 4 x0 y2.2 x2 x3 x4 x5 x6 y1.1 y2.1 false y0.2.1 y0.2.2.1 y0.2.2.2.1 y0.2.2.2.2.1 y0.2.2.2.2.2.1 y0.2.2.2.2.2.2.1 y0.2.2.2.2.2.2.2.1 y0.2.2.2.2.2.2.2.2.1 y0.2.2.2.2.2.2.2.2.2.1 y0.2.2.2.2.2.2.2.2.2.2 y3.2.1 y3.2.2) fun y16 => (Sum.elim (fun y6 => (some (.inl (y6.1, y6.2.1, y6.2.2)))) (fun y17 => (some (.inr (.inr (y17.1, y17.2))))) y16)) else (some (.inl (y2.2, y3.2.1, y3.2.2)))) (joinX fun (s2 : Int × Int × Int) => (Option.bind (Option.bind (pat_reader__eat_s0 59 x0 s2.1 x2 x3 x4 x5 x6) fun y7 => (bif y7.1 then (Option.bind (pat_reader__negative_s0 (cut x0 s0.1 y0.1) x0 y7.2 x2 x3 x4 x5 x6 y1.1 y2.1 false y0.2.1 y0.2.2.1 y0.2.2.2.1 y0.2.2.2.2.1 y0.2.2.2.2.2.1 y0.2.2.2.2.2.2.1 y0.2.2.2.2.2.2.2.1 y0.2.2.2.2.2.2.2.2.1 y0.2.2.2.2.2.2.2.2.2.1 y0.2.2.2.2.2.2.2.2.2.2 s2.2.1 s2.2.2) fun y18 => (Sum.elim (fun y8 => (some (.inl (y8.1, y8.2.1, y8.2.2, true)))) (fun y19 => (some (.inr (.inr (y19.1, y19.2))))) y18)) else (some (.inl (y7.2, ([] : List St106), ([] : List St106), false))))) (joinX fun (s1 : Int × (List St106) × (List St106) × Bool) => (Option.bind (bif (decide (s1.1 < (x0.length : Int))) then (Option.bind (pat_reader__fail_s0 s1.1 x0 s1.1 x2 x3 x4 x5 x6) fun y25 => (some (.inr (.inr (s1.1, s1.1))))) else (some (.inl ()))) (joinX fun (s3 : Unit) => (some (.inl ((⟨y1.1, y2.1, s1.2.1, s1.2.2.1, s1.2.2.2, y0.2.1, y0.2.2.1, y0.2.2.2.1, y0.2.2.2.2.1, y0.2.2.2.2.2.1, y0.2.2.2.2.2.2.1, y0.2.2.2.2.2.2.2.1, y0.2.2.2.2.2.2.2.2.1, y0.2.2.2.2.2.2.2.2.2.1, y0.2.2.2.2.2.2.2.2.2.2, s2.2.1, s2.2.2⟩ : St32), s1.1)))))))))) (fun y20 => (some (.inr (y20.1, y20.2)))) y15))) (fun y21 => (some (.inr (y21.1, y21.2)))) y14)) else none)) (fun y22 => (some (.inr (y22.1, y22.2.1)))) y13))))) (fun y23 => (some (.inr (y23.1, y23.2)))) y10))) (fun y24 => (some (.inr (y24.1, y24.2)))) y9))
theorem pat_reader__pattern_s0_okW {x0 : List Int} {x1 x2 x3 x4 x5 x6 : Int} {r : (St32 × Int) ⊕ (Int × Int)} (h : pat_reader__pattern_s0 x0 x1 x2 x3 x4 x5 x6 = some r) : (∀ a, r = .inl a → SC Tryz.prog 144 [.ptr 0 0] [.box [lR x0, .mp 1, iL x1, iL x2], .map [(iM 45, iL x3), (iM 43, iL x4), (iM 37, iL x5), (iM 164, iL x6)]] (.agg (encSt32 a.1)) [.box [lR x0, .mp 1, iL a.2, iL x2], .map [(iM 45, iL x3), (iM 43, iL x4), (iM 37, iL x5), (iM 164, iL x6)]]) ∧ (∀ a, r = .inr a → SP Tryz.prog 144 [.ptr 0 0] [.box [lR x0, .mp 1, iL x1, iL x2], .map [(iM 45, iL x3), (iM 43, iL x4), (iM 37, iL x5), (iM 164, iL x6)]] [.box [.undef, .mp 1, iL a.1, iL a.2], .map [(iM 45, iL x3), (iM 43, iL x4), (iM 37, iL x5), (iM 164, iL x6)]]) := by
 refine kFnW (fn := Tryz.f144) _ _ _ (fun F hFn hFH hFD => ?_)
 unfold pat_reader__pattern_s0 at h
 refine kq (kq (kn 1 ?_))
 obtain ⟨y9, hy0, h0⟩ := bindS h
 rcases y9 with y4 | y24
 ·have h8 := elimL h0
  refine kCg (some 7) [0, 1, 3] (pat_reader__pad_s0_ok0 hy0) (kEN (kn 1 ?_))
  obtain ⟨y10, hy1, h1⟩ := bindS h8
  rcases y10 with y1 | y23
  ·have h9 := elimL h1
   refine kCg (some 9) [0, 1] (pat_reader__affix_s0_ok0 hy1) (kr 2 (kcX h9 (fun (s0 : Int × Int × Int) => ([(0, .ptr 0 0), (2, .ptr 2 0), (3, .ptr 3 0)], [.box [lR x0, .mp 1, iL s0.1, iL x2], .map [(iM 45, iL x3), (iM 43, iL x4), (iM 37, iL x5), (iM 164, iL x6)], .box [.nl, .nl, .nl, .nl, .bool false, iL 0, iL 0, iL 0, iL 0, iL 0, iL 0, iL 0, iL 0, iL 0, .bool false, iM 0, iL 0], .box [lsv encSt106 2 y1.1, .nl, .nl, .nl, .bool false, iL 0, iL 0, iL 0, iL 0, iL 0, iL 0, iL 0, iL 0, iL 0, .bool false, iM s0.2.1, iL s0.2.2]])) (fun y26 hy8 h10 => ?_) (fun s0 h11 => ?_)))
   ·refine kq (kBT 14 hy8 (fun h12 => ?_) (fun h13 => ?_))
    ·refine km 1 ?_
     obtain ⟨y11, hy2, h2⟩ := bindS h12
     rcases y11 with y5 | y12
     ·have h14 := elimL h2
      exact kCg (some 16) [0, 1, 3] (pat_reader__pad_s1_ok0 hy2) (kE (kXo h14 [0, 2, 3]))
     ·have h15 := elimR h2
      refine kCP (some 16) [0, 1, 3] (pat_reader__pad_s1_ok1 hy2) ?_
      obtain rfl := oi h15
      have h16 := joinX_inr h10
      exact PP.cutXr (by obtain rfl := oi h16; exact kPV [0, 1] hFH hFD)
    ·exact kK (kXo h13 [0, 2, 3])
   ·refine kq (kn 1 ?_)
    obtain ⟨y13, hy3, h3⟩ := bindS h11
    rcases y13 with y0 | y22
    ·have h17 := elimL h3
     refine kCg (some 22) [0, 1, 3] (pat_reader__number_s0_ok0 hy3) (kEN (kS (kDr (kD 9 ?_))))
     obtain ⟨hm, h18⟩ := asrt h17
     refine RJ.rel (d := (some 32)) (ef := ⟨.lst ((y0.1 : Int).toNat - (s0.1 : Int).toNat) 1 (((x0.flatMap (encI .i32)).take ((y0.1 : Int).toNat * 1)).drop ((s0.1 : Int).toNat * 1)), [], []⟩) (ef' := ⟨.lst (cut x0 s0.1 y0.1).length 1 ((cut x0 s0.1 y0.1).flatMap (encI .i32)), [], []⟩) (c := inS s0.1 y0.1 x0.length) (tr2 := [([], []), ([], []), ([], []), ([0, 1], []), ([], []), ([], []), ([], []), ([], []), ([0, 1], []), ([], [])]) (H2 := [.box [lR x0, .mp 1, iL y0.1, iL x2], .map [(iM 45, iL x3), (iM 43, iL x4), (iM 37, iL x5), (iM 164, iL x6)], .box [.nl, .nl, .nl, .nl, .bool false, iL 0, iL 0, iL 0, iL 0, iL 0, iL 0, iL 0, iL 0, iL 0, .bool false, iM 0, iL 0], .box [lsv encSt106 2 y1.1, .nl, .nl, .nl, .bool false, iL y0.2.1, iL y0.2.2.1, iL y0.2.2.2.1, iL y0.2.2.2.2.1, iL y0.2.2.2.2.2.1, iL y0.2.2.2.2.2.2.1, iL y0.2.2.2.2.2.2.2.1, iL y0.2.2.2.2.2.2.2.2.1, iL y0.2.2.2.2.2.2.2.2.2.1, .bool y0.2.2.2.2.2.2.2.2.2.2, iM s0.2.1, iL s0.2.2]]) (by kernel_rfl) hm (fun hc => N.slice (encI_len .i32) hc) (by kernel_rfl) (kD 1 (kEN (kn 1 ?_)))
     obtain ⟨y14, hy4, h4⟩ := bindS h18
     rcases y14 with y3 | y21
     ·have h19 := elimL h4
      refine kCg (some 34) [0, 1, 3] (pat_reader__pad_s1_ok0 hy4) (kEN (kn 1 ?_))
      obtain ⟨y15, hy5, h5⟩ := bindS h19
      rcases y15 with y2 | y20
      ·have h20 := elimL h5
       refine kCg (some 36) [0, 1] (pat_reader__affix_s0_ok0 hy5) (kr 2 (kcX h20 (fun (s2 : Int × Int × Int) => ([(0, .ptr 0 0), (2, .ptr 2 0), (3, .ptr 3 0), (5, lR (cut x0 s0.1 y0.1))], [.box [lR x0, .mp 1, iL s2.1, iL x2], .map [(iM 45, iL x3), (iM 43, iL x4), (iM 37, iL x5), (iM 164, iL x6)], .box [.nl, .nl, .nl, .nl, .bool false, iL 0, iL 0, iL 0, iL 0, iL 0, iL 0, iL 0, iL 0, iL 0, .bool false, iM 0, iL 0], .box [lsv encSt106 2 y1.1, lsv encSt106 2 y2.1, .nl, .nl, .bool false, iL y0.2.1, iL y0.2.2.1, iL y0.2.2.2.1, iL y0.2.2.2.2.1, iL y0.2.2.2.2.2.1, iL y0.2.2.2.2.2.2.1, iL y0.2.2.2.2.2.2.2.1, iL y0.2.2.2.2.2.2.2.2.1, iL y0.2.2.2.2.2.2.2.2.2.1, .bool y0.2.2.2.2.2.2.2.2.2.2, iM s2.2.1, iL s2.2.2]])) (fun y27 hy9 h21 => ?_) (fun s2 h22 => ?_)))
       ·refine kq (kBT 41 hy9 (fun h23 => ?_) (fun h24 => ?_))
        ·refine kR (RJ.seg 1 [0, 2, 3, 5, 42] (L2 := [(0, .ptr 0 0), (2, .ptr 2 0), (3, .ptr 3 0), (5, lR (cut x0 s0.1 y0.1)), (42, .ptr 0 0)]) (H2 := [.box [lR x0, .mp 1, iL y2.2, iL x2], .map [(iM 45, iL x3), (iM 43, iL x4), (iM 37, iL x5), (iM 164, iL x6)], .box [.nl, .nl, .nl, .nl, .bool false, iL 0, iL 0, iL 0, iL 0, iL 0, iL 0, iL 0, iL 0, iL 0, .bool false, iM 0, iL 0], .box [lsv encSt106 2 y1.1, lsv encSt106 2 y2.1, .nl, .nl, .bool false, iL y0.2.1, iL y0.2.2.1, iL y0.2.2.2.1, iL y0.2.2.2.2.1, iL y0.2.2.2.2.2.1, iL y0.2.2.2.2.2.2.1, iL y0.2.2.2.2.2.2.2.1, iL y0.2.2.2.2.2.2.2.2.1, iL y0.2.2.2.2.2.2.2.2.2.1, .bool y0.2.2.2.2.2.2.2.2.2.2, iM y3.2.1, iL y3.2.2]]) (by kernel_rfl) ?_)
         obtain ⟨y16, hy6, h6⟩ := bindS h23
         rcases y16 with y6 | y17
         ·have h25 := elimL h6
          exact kCg (some 43) [0, 1, 3] (pat_reader__pad_s2_ok0 hy6) (kE (kXo h25 [0, 2, 3, 5]))
         ·have h26 := elimR h6
          refine kCP (some 43) [0, 1, 3] (pat_reader__pad_s2_ok1 hy6) ?_
          obtain rfl := oi h26
          have h27 := joinX_inr h21
          exact PP.cutXr (by obtain rfl := oi h27; exact kPV [0, 1] hFH hFD)
        ·exact kK (kXo h24 [0, 2, 3, 5])
       ·refine kcX h22 (fun (s1 : Int × (List St106) × (List St106) × Bool) => ([(0, .ptr 0 0), (2, .ptr 2 0), (3, .ptr 3 0)], [.box [lR x0, .mp 1, iL s1.1, iL x2], .map [(iM 45, iL x3), (iM 43, iL x4), (iM 37, iL x5), (iM 164, iL x6)], .box [.nl, .nl, .nl, .nl, .bool false, iL 0, iL 0, iL 0, iL 0, iL 0, iL 0, iL 0, iL 0, iL 0, .bool false, iM 0, iL 0], .box [lsv encSt106 2 y1.1, lsv encSt106 2 y2.1, lsv encSt106 2 s1.2.1, lsv encSt106 2 s1.2.2.1, .bool s1.2.2.2, iL y0.2.1, iL y0.2.2.1, iL y0.2.2.2.1, iL y0.2.2.2.2.1, iL y0.2.2.2.2.2.1, iL y0.2.2.2.2.2.2.1, iL y0.2.2.2.2.2.2.2.1, iL y0.2.2.2.2.2.2.2.2.1, iL y0.2.2.2.2.2.2.2.2.2.1, .bool y0.2.2.2.2.2.2.2.2.2.2, iM s2.2.1, iL s2.2.2]])) (fun y28 hy10 h28 => ?_) (fun s1 h29 => ?_)
        ·refine kn 1 ?_
         obtain ⟨y7, hy11, h30⟩ := bindS hy10
         refine kCg (some 45) [0, 1] (pat_reader__eat_s0_ok hy11) (kEN (kBT 45 h30 (fun h31 => ?_) (fun h32 => ?_)))
         ·refine km 2 ?_
          obtain ⟨y18, hy7, h7⟩ := bindS h31
          rcases y18 with y8 | y19
          ·have h33 := elimL h7
           exact kCg (some 48) [0, 1, 3] (pat_reader__negative_s0_ok0 hy7) (kE (kXo h33 [0, 2, 3]))
          ·have h34 := elimR h7
           refine kCP (some 48) [0, 1, 3] (pat_reader__negative_s0_ok1 hy7) ?_
           obtain rfl := oi h34
           have h35 := joinX_inr h28
           exact PP.cutXr (by obtain rfl := oi h35; exact kPV [0, 1] hFH hFD)
         ·exact kK (PJ.wk (Wk.leBox 3 2 (cs := [lsv encSt106 2 y1.1, lsv encSt106 2 y2.1, .nl, .nl, .bool false, iL y0.2.1, iL y0.2.2.1, iL y0.2.2.2.1, iL y0.2.2.2.2.1, iL y0.2.2.2.2.2.1, iL y0.2.2.2.2.2.2.1, iL y0.2.2.2.2.2.2.2.1, iL y0.2.2.2.2.2.2.2.2.1, iL y0.2.2.2.2.2.2.2.2.2.1, .bool y0.2.2.2.2.2.2.2.2.2.2, iM s2.2.1, iL s2.2.2]) (v := .nl) (v' := lsv encSt106 2 []) (by kernel_rfl) (by kernel_rfl) (Le.nl _)) (PJ.wk (Wk.leBox 3 3 (cs := [lsv encSt106 2 y1.1, lsv encSt106 2 y2.1, lsv encSt106 2 ([] : List St106), .nl, .bool false, iL y0.2.1, iL y0.2.2.1, iL y0.2.2.2.1, iL y0.2.2.2.2.1, iL y0.2.2.2.2.2.1, iL y0.2.2.2.2.2.2.1, iL y0.2.2.2.2.2.2.2.1, iL y0.2.2.2.2.2.2.2.2.1, iL y0.2.2.2.2.2.2.2.2.2.1, .bool y0.2.2.2.2.2.2.2.2.2.2, iM s2.2.1, iL s2.2.2]) (v := .nl) (v' := lsv encSt106 2 []) (by kernel_rfl) (by kernel_rfl) (Le.nl _)) (kXo h32 [0, 2, 3])))
        ·refine kcX h29 (fun (s3 : Unit) => ([(2, .ptr 2 0), (3, .ptr 3 0)], [.box [lR x0, .mp 1, iL s1.1, iL x2], .map [(iM 45, iL x3), (iM 43, iL x4), (iM 37, iL x5), (iM 164, iL x6)], .box [.nl, .nl, .nl, .nl, .bool false, iL 0, iL 0, iL 0, iL 0, iL 0, iL 0, iL 0, iL 0, iL 0, .bool false, iM 0, iL 0], .box [lsv encSt106 2 y1.1, lsv encSt106 2 y2.1, lsv encSt106 2 s1.2.1, lsv encSt106 2 s1.2.2.1, .bool s1.2.2.2, iL y0.2.1, iL y0.2.2.1, iL y0.2.2.2.1, iL y0.2.2.2.2.1, iL y0.2.2.2.2.2.1, iL y0.2.2.2.2.2.2.1, iL y0.2.2.2.2.2.2.2.1, iL y0.2.2.2.2.2.2.2.2.1, iL y0.2.2.2.2.2.2.2.2.2.1, .bool y0.2.2.2.2.2.2.2.2.2.2, iM s2.2.1, iL s2.2.2]])) (fun y29 hy12 h36 => ?_) (fun s3 h37 => ?_)
         ·refine kS (kDr (kD 10 (kEN (kBT 58 hy12 (fun h38 => ?_) (fun h39 => ?_)))))
          ·refine km 5 ?_
           obtain ⟨y25, hy13, h40⟩ := bindS h38
           refine kCP (some 64) [0, 1] (pat_reader__fail_s0_ok0 hy13) ?_
           obtain rfl := oi h40
           have h41 := joinX_inr h36
           exact PP.cutXr (by obtain rfl := oi h41; exact kPV [0, 1] hFH hFD)
          ·exact kK (kXo h39 [2, 3])
         ·exact kq (kX (by obtain rfl := oi h37; exact kRV [0, 1] (.inr rfl) hFn hFH hFD))
      ·have h42 := elimR h5
       exact kCP (some 36) [0, 1] (pat_reader__affix_s0_ok1 hy5) (PP.next (by obtain rfl := oi h42; exact kPV [0, 1] hFH hFD))
     ·have h43 := elimR h4
      exact kCP (some 34) [0, 1, 3] (pat_reader__pad_s1_ok1 hy4) (PP.next (by obtain rfl := oi h43; exact kPV [0, 1] hFH hFD))
    ·have h44 := elimR h3
     exact kCP (some 22) [0, 1, 3] (pat_reader__number_s0_ok1 hy3) (PP.next (by obtain rfl := oi h44; exact kPV [0, 1] hFH hFD))
  ·have h45 := elimR h1
   exact kCP (some 9) [0, 1] (pat_reader__affix_s0_ok1 hy1) (PP.next (by obtain rfl := oi h45; exact kPV [0, 1] hFH hFD))
 ·have h46 := elimR h0
  exact kCP (some 7) [0, 1, 3] (pat_reader__pad_s0_ok1 hy0) (PP.next (by obtain rfl := oi h46; exact kPV [0, 1] hFH hFD))
theorem pat_reader__pattern_s0_ok0 {x0 : List Int} {x1 x2 x3 x4 x5 x6 : Int} {r : St32 × Int} (h : pat_reader__pattern_s0 x0 x1 x2 x3 x4 x5 x6 = some (.inl r)) : SC Tryz.prog 144 [.ptr 0 0] [.box [lR x0, .mp 1, iL x1, iL x2], .map [(iM 45, iL x3), (iM 43, iL x4), (iM 37, iL x5), (iM 164, iL x6)]] (.agg (encSt32 r.1)) [.box [lR x0, .mp 1, iL r.2, iL x2], .map [(iM 45, iL x3), (iM 43, iL x4), (iM 37, iL x5), (iM 164, iL x6)]] := (pat_reader__pattern_s0_okW h).1 _ rfl
theorem pat_reader__pattern_s0_ok1 {x0 : List Int} {x1 x2 x3 x4 x5 x6 : Int} {r : Int × Int} (h : pat_reader__pattern_s0 x0 x1 x2 x3 x4 x5 x6 = some (.inr r)) : SP Tryz.prog 144 [.ptr 0 0] [.box [lR x0, .mp 1, iL x1, iL x2], .map [(iM 45, iL x3), (iM 43, iL x4), (iM 37, iL x5), (iM 164, iL x6)]] [.box [.undef, .mp 1, iL r.1, iL r.2], .map [(iM 45, iL x3), (iM 43, iL x4), (iM 37, iL x5), (iM 164, iL x6)]] := (pat_reader__pattern_s0_okW h).2 _ rfl
def pat_read_1_s0 (x0 : List Int) (x1 x2 x3 x4 x5 x6 : Int) (x7 x8 x9 x10 : List St106) (x11 : Bool) (x12 x13 x14 x15 x16 x17 x18 x19 x20 : Int) (x21 : Bool) (x22 x23 x24 : Int) (x25 : Bool) : Option (Unit) :=
 (some ())
theorem pat_read_1_s0_ok {x0 : List Int} {x1 x2 x3 x4 x5 x6 : Int} {x7 x8 x9 x10 : List St106} {x11 : Bool} {x12 x13 x14 x15 x16 x17 x18 x19 x20 : Int} {x21 : Bool} {x22 x23 x24 : Int} {x25 : Bool} {r : Unit} (h : pat_read_1_s0 x0 x1 x2 x3 x4 x5 x6 x7 x8 x9 x10 x11 x12 x13 x14 x15 x16 x17 x18 x19 x20 x21 x22 x23 x24 x25 = some r) : SD Tryz.prog 143 false [.ptr 0 0, .ptr 3 0, .ptr 4 0, .ptr 5 0] [.box [.ptr 1 0], .box [lR x0, .mp 2, iL x1, iL x2], .map [(iM 45, iL x3), (iM 43, iL x4), (iM 37, iL x5), (iM 164, iL x6)], .box [lsv encSt106 2 x7, lsv encSt106 2 x8, lsv encSt106 2 x9, lsv encSt106 2 x10, .bool x11, iL x12, iL x13, iL x14, iL x15, iL x16, iL x17, iL x18, iL x19, iL x20, .bool x21, iM x22, iL x23], .box [iL x24], .box [.bool x25]] [.box [.ptr 1 0], .box [lR x0, .mp 2, iL x1, iL x2], .map [(iM 45, iL x3), (iM 43, iL x4), (iM 37, iL x5), (iM 164, iL x6)], .box [lsv encSt106 2 x7, lsv encSt106 2 x8, lsv encSt106 2 x9, lsv encSt106 2 x10, .bool x11, iL x12, iL x13, iL x14, iL x15, iL x16, iL x17, iL x18, iL x19, iL x20, .bool x21, iM x22, iL x23], .box [iL x24], .box [.bool x25]] := by
 refine kFnC (fn := Tryz.f143) false 4 5 (fun F hFn hFH hFD => ?_)
 unfold pat_read_1_s0 at h
 exact kF (kK (by obtain rfl := oi h; exact kRV [0, 1, 2, 3, 4, 5] (.inl rfl) hFn hFH hFD))
def pat_read_1_s1 (x0 x1 x2 x3 x4 x5 : Int) (x6 : Bool) (x7 x8 x9 x10 x11 x12 x13 x14 x15 : Int) (x16 : Bool) (x17 x18 x19 : Int) (x20 : Bool) : Option (Unit) :=
 (some ())
theorem pat_read_1_s1_ok {x0 x1 x2 x3 x4 x5 : Int} {x6 : Bool} {x7 x8 x9 x10 x11 x12 x13 x14 x15 : Int} {x16 : Bool} {x17 x18 x19 : Int} {x20 : Bool} {r : Unit} (h : pat_read_1_s1 x0 x1 x2 x3 x4 x5 x6 x7 x8 x9 x10 x11 x12 x13 x14 x15 x16 x17 x18 x19 x20 = some r) : SD Tryz.prog 143 true [.ptr 0 0, .ptr 3 0, .ptr 4 0, .ptr 5 0] [.box [.ptr 1 0], .box [.undef, .mp 2, iL x0, iL x1], .map [(iM 45, iL x2), (iM 43, iL x3), (iM 37, iL x4), (iM 164, iL x5)], .box [.nl, .nl, .nl, .nl, .bool x6, iL x7, iL x8, iL x9, iL x10, iL x11, iL x12, iL x13, iL x14, iL x15, .bool x16, iM x17, iL x18], .box [iL x19], .box [.bool x20]] [.box [.ptr 1 0], .box [.undef, .mp 2, iL x0, iL x1], .map [(iM 45, iL x2), (iM 43, iL x3), (iM 37, iL x4), (iM 164, iL x5)], .box [.nl, .nl, .nl, .nl, .bool false, iL 0, iL 0, iL 0, iL 0, iL 0, iL 0, iL 0, iL 0, iL 0, .bool false, iM 0, iL 0], .box [iL x1], .box [.bool false]] := by
 refine kFnC (fn := Tryz.f143) true 4 5 (fun F hFn hFH hFD => ?_)
 unfold pat_read_1_s1 at h
 exact kT (kM (by obtain rfl := oi h; exact kRV [0, 1, 2, 3, 4, 5] (.inl rfl) hFn hFH hFD))
def pat_read (x0 : List Int) : Option (St32 × Int × Bool) :=
 (Option.bind pat_signs_s0 fun y3 => (Option.bind (pat_reader__pattern_s0 x0 0 0 1 2 3 4) fun y2 => (Sum.elim (fun y0 => (Option.bind (pat_read_1_s0 x0 y0.2 0 1 2 3 4 y0.1.Pre_ y0.1.Suf_ y0.1.NPre_ y0.1.NSuf_ y0.1.Neg_ y0.1.Hash_ y0.1.MinInt_ y0.1.MinFrac_ y0.1.MaxFrac_ y0.1.G1_ y0.1.G2_ y0.1.MinSig_ y0.1.MaxSig_ y0.1.Exp_ y0.1.ExpPlus_ y0.1.Pad_ y0.1.PadAt_ 0 true) fun y4 => (some (y0.1, 0, true)))) (fun y1 => (Option.bind (pat_read_1_s1 y1.1 y1.2 1 2 3 4 false 0 0 0 0 0 0 0 0 0 false 0 0 0 false) fun y5 => (some ((⟨([] : List St106), ([] : List St106), ([] : List St106), ([] : List St106), false, 0, 0, 0, 0, 0, 0, 0, 0, 0, false, 0, 0⟩ : St32), y1.2, false)))) y2)))
theorem pat_read_ok {x0 : List Int} {r : St32 × Int × Bool} (h : pat_read x0 = some r) : SC Tryz.prog 115 [lR x0] [] (.tup [.agg (encSt32 r.1), iL r.2.1, .bool r.2.2]) [] := by
 refine kFnD (fn := Tryz.f115) (fun F hFn hFH hFD hFds => ?_)
 unfold pat_read at h
 refine kq (kn 1 ?_)
 obtain ⟨y3, hy1, h1⟩ := bindS h
 refine kCg (some 7) [] (pat_signs_s0_ok hy1) (kr 4 (kn 1 (RJ.defer (f := 143) (args := [.ptr 5 0, .ptr 0 0, .ptr 1 0, .ptr 2 0]) (by kernel_rfl) hFds (fun w1 K1 D1 d1 hok hgr hFD1 => kEN (kn 1 ?_)))))
 obtain ⟨y2, hy0, h0⟩ := bindS h1
 rcases y2 with y0 | y1
 ·have h2 := elimL h0
  refine kCg (some 12) [4, 3] (pat_reader__pattern_s0_ok0 hy0) (kr 3 (kX ?_))
  obtain ⟨y4, hy2, h3⟩ := bindS h2
  exact by obtain rfl := oi h3; exact PJ.retD (args := [.ptr 5 0, .ptr 0 0, .ptr 1 0, .ptr 2 0]) (args0 := [.ptr 0 0, .ptr 3 0, .ptr 4 0, .ptr 5 0]) (H0 := [.box [.ptr 1 0], .box [lR x0, .mp 2, iL y0.2, iL 0], .map [(iM 45, iL 1), (iM 43, iL 2), (iM 37, iL 3), (iM 164, iL 4)], .box (encSt32 y0.1), .box [iL 0], .box [.bool true]]) (H0' := [.box [.ptr 1 0], .box [lR x0, .mp 2, iL y0.2, iL 0], .map [(iM 45, iL 1), (iM 43, iL 2), (iM 37, iL 3), (iM 164, iL 4)], .box (encSt32 y0.1), .box [iL 0], .box [.bool true]]) (H2 := [.box (encSt32 y0.1), .box [iL 0], .box [.bool true], .map [(iM 45, iL 1), (iM 43, iL 2), (iM 37, iL 3), (iM 164, iL 4)], .box [lR x0, .mp 3, iL y0.2, iL 0], .box [.ptr 4 0]]) (H1 := []) (H' := []) (v := .tup [.agg (encSt32 y0.1), iL 0, .bool true]) (v1 := .tup [.agg (encSt32 y0.1), iL 0, .bool true]) [5, 4, 3, 0, 1, 2] [] hok hgr rfl hFn (pat_read_1_s0_ok hy2) (by kernel_rfl) (by kernel_rfl) (by kernel_rfl) (by decide) (by kernel_rfl) (by kernel_rfl) (by kernel_rfl) (by kernel_rfl) (by kernel_rfl) (by kernel_rfl) (by kernel_rfl) hFH hFD (by kernel_rfl) (by kernel_rfl) (by decide) (by kernel_rfl) (by kernel_rfl) (by kernel_rfl) (by kernel_rfl) (by kernel_rfl) (Le.refl _)
 ·have h4 := elimR h0
  refine kCP (some 12) [4, 3] (pat_reader__pattern_s0_ok1 hy0) (PP.next ?_)
  obtain ⟨y5, hy3, h5⟩ := bindS h4
  exact by obtain rfl := oi h5; exact PP.retD (args := [.ptr 5 0, .ptr 0 0, .ptr 1 0, .ptr 2 0]) (args0 := [.ptr 0 0, .ptr 3 0, .ptr 4 0, .ptr 5 0]) (H0 := [.box [.ptr 1 0], .box [.undef, .mp 2, iL y1.1, iL y1.2], .map [(iM 45, iL 1), (iM 43, iL 2), (iM 37, iL 3), (iM 164, iL 4)], .box [.nl, .nl, .nl, .nl, .bool false, iL 0, iL 0, iL 0, iL 0, iL 0, iL 0, iL 0, iL 0, iL 0, .bool false, iM 0, iL 0], .box [iL 0], .box [.bool false]]) (H0' := [.box [.ptr 1 0], .box [.undef, .mp 2, iL y1.1, iL y1.2], .map [(iM 45, iL 1), (iM 43, iL 2), (iM 37, iL 3), (iM 164, iL 4)], .box [.nl, .nl, .nl, .nl, .bool false, iL 0, iL 0, iL 0, iL 0, iL 0, iL 0, iL 0, iL 0, iL 0, .bool false, iM 0, iL 0], .box [iL y1.2], .box [.bool false]]) (H2 := [.box [.nl, .nl, .nl, .nl, .bool false, iL 0, iL 0, iL 0, iL 0, iL 0, iL 0, iL 0, iL 0, iL 0, .bool false, iM 0, iL 0], .box [iL y1.2], .box [.bool false], .map [(iM 45, iL 1), (iM 43, iL 2), (iM 37, iL 3), (iM 164, iL 4)], .box [.undef, .mp 3, iL y1.1, iL y1.2], .box [.ptr 4 0]]) (H1 := []) (H' := []) (v := .tup [.agg [.nl, .nl, .nl, .nl, .bool false, iL 0, iL 0, iL 0, iL 0, iL 0, iL 0, iL 0, iL 0, iL 0, .bool false, iM 0, iL 0], iL y1.2, .bool false]) (v1 := .tup [.agg [.nl, .nl, .nl, .nl, .bool false, iL 0, iL 0, iL 0, iL 0, iL 0, iL 0, iL 0, iL 0, iL 0, .bool false, iM 0, iL 0], iL y1.2, .bool false]) [5, 4, 3, 0, 1, 2] [] hok hgr rfl hFn (pat_read_1_s1_ok hy3) (by kernel_rfl) (by kernel_rfl) (by kernel_rfl) (by decide) (by kernel_rfl) (by kernel_rfl) (by kernel_rfl) (by kernel_rfl) (by kernel_rfl) (by kernel_rfl) (by kernel_rfl) hFH hFD (by kernel_rfl) (by kernel_rfl) (by decide) (by kernel_rfl) (by kernel_rfl) (by kernel_rfl) (by kernel_rfl) (by kernel_rfl) (Le.tup (.cons (Le.agg (.cons (Le.nl _) (.cons (Le.nl _) (.cons (Le.nl _) (.cons (Le.nl _) (.cons (Le.refl _) (.cons (Le.refl _) (.cons (Le.refl _) (.cons (Le.refl _) (.cons (Le.refl _) (.cons (Le.refl _) (.cons (Le.refl _) (.cons (Le.refl _) (.cons (Le.refl _) (.cons (Le.refl _) (.cons (Le.refl _) (.cons (Le.refl _) (.cons (Le.refl _) .nil)))))))))))))))))) (.cons (Le.refl _) (.cons (Le.refl _) .nil))))
def pat_Parse (x0 : List UInt8) : Option (St32 × Int × Int) :=
 (Option.bind (utf_Decode (bytesI x0)) fun y1 => (bif (decide (¬ y1.2.2 = 0)) then (some ((⟨([] : List St106), ([] : List St106), ([] : List St106), ([] : List St106), false, 0, 0, 0, 0, 0, 0, 0, 0, 0, false, 0, 0⟩ : St32), y1.2.1, y1.2.2)) else (bif (decide ((y1.1.length : Int) > 120)) then (some ((⟨([] : List St106), ([] : List St106), ([] : List St106), ([] : List St106), false, 0, 0, 0, 0, 0, 0, 0, 0, 0, false, 0, 0⟩ : St32), 0, 11)) else (Option.bind (pat_read y1.1) fun y0 => (bif (!y0.2.2) then (some ((⟨([] : List St106), ([] : List St106), ([] : List St106), ([] : List St106), false, 0, 0, 0, 0, 0, 0, 0, 0, 0, false, 0, 0⟩ : St32), y0.2.1, 2)) else (bif (decide (((maxI ((maxI ((maxI (IntKind.wrap .i64 (y0.1.Hash_ + y0.1.MinInt_)) y0.1.MaxFrac_)) y0.1.MaxSig_)) y0.1.Exp_)) > 40)) then (some ((⟨([] : List St106), ([] : List St106), ([] : List St106), ([] : List St106), false, 0, 0, 0, 0, 0, 0, 0, 0, 0, false, 0, 0⟩ : St32), 0, 11)) else (some (y0.1, 0, 0))))))))
theorem pat_Parse_ok {x0 : List UInt8} {r : St32 × Int × Int} (h : pat_Parse x0 = some r) : SC Tryz.prog 76 [.str x0] [] (.tup [.agg (encSt32 r.1), iL r.2.1, iL r.2.2]) [] := by
 refine kFn (fn := Tryz.f76) (fun F hFn hFH hFD => ?_)
 unfold pat_Parse at h
 exact kq (kn 1 (RJ.rel (d := (some 12)) (ef := ⟨.lst x0.length 1 (x0.map byteSV), [], []⟩) (ef' := ⟨lB (bytesI x0), [], []⟩) (c := true) (tr2 := []) (H2 := [.box [.nl, .nl, .nl, .nl, .bool false, iL 0, iL 0, iL 0, iL 0, iL 0, iL 0, iL 0, iL 0, iL 0, .bool false, iM 0, iL 0]]) (by kernel_rfl) rfl (fun hc => N.toBytes) (by kernel_rfl) (kAb 13 h (fun _ => utf_Decode_ok) (fun y1 h0 => kr 7 (kS (kq (kBT 18 h0 (fun h1 => kq (kX (PJ.passRet (by obtain rfl := oi h1; exact PJ.res (v1 := .tup [.agg [.nl, .nl, .nl, .nl, .bool false, iL 0, iL 0, iL 0, iL 0, iL 0, iL 0, iL 0, iL 0, iL 0, .bool false, iM 0, iL 0], iL y1.2.1, iL y1.2.2]) (Le.tup (.cons (Le.agg (.cons (Le.nl _) (.cons (Le.nl _) (.cons (Le.nl _) (.cons (Le.nl _) (.cons (Le.refl _) (.cons (Le.refl _) (.cons (Le.refl _) (.cons (Le.refl _) (.cons (Le.refl _) (.cons (Le.refl _) (.cons (Le.refl _) (.cons (Le.refl _) (.cons (Le.refl _) (.cons (Le.refl _) (.cons (Le.refl _) (.cons (Le.refl _) (.cons (Le.refl _) .nil)))))))))))))))))) (.cons (Le.refl _) (.cons (Le.refl _) .nil)))) (kZ hFn hFH hFD))))) (fun h2 => kKN (kS (kq (kBT 24 h2 (fun h3 => kq (kX (PJ.passRet (by obtain rfl := oi h3; exact PJ.res (v1 := .tup [.agg [.nl, .nl, .nl, .nl, .bool false, iL 0, iL 0, iL 0, iL 0, iL 0, iL 0, iL 0, iL 0, iL 0, .bool false, iM 0, iL 0], iL 0, iL 11]) (Le.tup (.cons (Le.agg (.cons (Le.nl _) (.cons (Le.nl _) (.cons (Le.nl _) (.cons (Le.nl _) (.cons (Le.refl _) (.cons (Le.refl _) (.cons (Le.refl _) (.cons (Le.refl _) (.cons (Le.refl _) (.cons (Le.refl _) (.cons (Le.refl _) (.cons (Le.refl _) (.cons (Le.refl _) (.cons (Le.refl _) (.cons (Le.refl _) (.cons (Le.refl _) (.cons (Le.refl _) .nil)))))))))))))))))) (.cons (Le.refl _) (.cons (Le.refl _) .nil)))) (kZ hFn hFH hFD))))) (fun h4 => kKN (kn 1 (kAb 28 h4 (fun _ => pat_read_ok) (fun y0 h5 => kr 8 (kS (kq (kBT 33 h5 (fun h6 => kSR (RJ.seg 5 [2, 3, 4, 8] (L2 := [(2, .ptr 0 0), (3, iL y0.2.1), (4, iL 2), (8, .ptr 1 0)]) (H2 := [.box [.nl, .nl, .nl, .nl, .bool false, iL 0, iL 0, iL 0, iL 0, iL 0, iL 0, iL 0, iL 0, iL 0, .bool false, iM 0, iL 0], .box (encSt32 y0.1)]) (by kernel_rfl) (kEN (kX (PJ.passRet (by obtain rfl := oi h6; exact PJ.res (v1 := .tup [.agg [.nl, .nl, .nl, .nl, .bool false, iL 0, iL 0, iL 0, iL 0, iL 0, iL 0, iL 0, iL 0, iL 0, .bool false, iM 0, iL 0], iL y0.2.1, iL 2]) (Le.tup (.cons (Le.agg (.cons (Le.nl _) (.cons (Le.nl _) (.cons (Le.nl _) (.cons (Le.nl _) (.cons (Le.refl _) (.cons (Le.refl _) (.cons (Le.refl _) (.cons (Le.refl _) (.cons (Le.refl _) (.cons (Le.refl _) (.cons (Le.refl _) (.cons (Le.refl _) (.cons (Le.refl _) (.cons (Le.refl _) (.cons (Le.refl _) (.cons (Le.refl _) (.cons (Le.refl _) .nil)))))))))))))))))) (.cons (Le.refl _) (.cons (Le.refl _) .nil)))) (kZ hFn hFH hFD))))))) (fun h7 => kKN (kS (kSR (RJ.seg 13 [2, 3, 4, 8, 48] (L2 := [(2, .ptr 0 0), (3, iL 0), (4, iL 0), (8, .ptr 1 0), (48, .bool ((decide (((maxI ((maxI ((maxI (IntKind.wrap .i64 (y0.1.Hash_ + y0.1.MinInt_)) y0.1.MaxFrac_)) y0.1.MaxSig_)) y0.1.Exp_)) > 40))))]) (H2 := [.box [.nl, .nl, .nl, .nl, .bool false, iL 0, iL 0, iL 0, iL 0, iL 0, iL 0, iL 0, iL 0, iL 0, .bool false, iM 0, iL 0], .box (encSt32 y0.1)]) (by kernel_rfl) (kEN (kBT 48 h7 (fun h8 => kq (kX (PJ.passRet (by obtain rfl := oi h8; exact PJ.res (v1 := .tup [.agg [.nl, .nl, .nl, .nl, .bool false, iL 0, iL 0, iL 0, iL 0, iL 0, iL 0, iL 0, iL 0, iL 0, .bool false, iM 0, iL 0], iL 0, iL 11]) (Le.tup (.cons (Le.agg (.cons (Le.nl _) (.cons (Le.nl _) (.cons (Le.nl _) (.cons (Le.nl _) (.cons (Le.refl _) (.cons (Le.refl _) (.cons (Le.refl _) (.cons (Le.refl _) (.cons (Le.refl _) (.cons (Le.refl _) (.cons (Le.refl _) (.cons (Le.refl _) (.cons (Le.refl _) (.cons (Le.refl _) (.cons (Le.refl _) (.cons (Le.refl _) (.cons (Le.refl _) .nil)))))))))))))))))) (.cons (Le.refl _) (.cons (Le.refl _) .nil)))) (kZ hFn hFH hFD))))) (fun h9 => kKN (kq (kX (by obtain rfl := oi h9; exact kZ hFn hFH hFD))))))))))))))))))))))))))))
def pat_some (x0 : Int) : Option (Int) :=
 (some (maxI 0 (minI x0 121)))
theorem pat_some_ok {x0 r : Int} (h : pat_some x0 = some r) : SC Tryz.prog 188 [iL x0] [] (iL r) [] := by
 refine kFn (fn := Tryz.f188) (fun F hFn hFH hFD => ?_)
 unfold pat_some at h
 exact kq (kq (kX (by obtain rfl := oi h; exact kZ hFn hFH hFD)))
def pat_repeat (x0 : List Int) (x1 x2 : Int) : Option (List Int) :=
 (Option.bind (Option.bind (pat_some x2) fun y0 => (loopN (fun (s0 : Int × (List Int)) => (bif (decide (s0.1 < y0)) then (bif room (s0.2.length + ([x1] : List Int).length) then (some (.inl ((IntKind.wrap .i64 (s0.1 + 1)), (s0.2 ++ ([x1] : List Int))))) else none) else (some (.inr s0.2)))) big (0, x0))) fun (s1 : (List Int)) => (some s1))
theorem pat_repeat_ok_0o {x0 : List Int} {x1 x2 : Int} {r : List Int} (h : pat_repeat x0 x1 x2 = some r) : SC Tryz.prog 187 [.vc 0, iM x1, iL x2] [vecL (encI .i32) 1 21 x0] (.vc 1) [.gone, vecL (encI .i32) 1 21 r] := by
 refine kFn (fn := Tryz.f187) (fun F hFn hFH hFD => ?_)
 unfold pat_repeat at h
 exact J.wk (Wk.move 0 (n := x0.length) (k := 1) (e := 21) (cs := x0.flatMap (encI .i32)) (by kernel_rfl)) (kq (kcN h (fun (s1 : (List Int)) => ([(0, .vc 1), (6, .nl)], [.gone, vecL (encI .i32) 1 21 s1])) (fun s1 hy0 => kn 1 (kAb 8 hy0 (fun _ => pat_some_ok) (fun y0 h1 => kr 1 (kb 0 (kl (fun (s0 : Int × (List Int)) => ([(0, .vc 1), (1, iM x1), (6, .nl), (8, iL y0), (9, iL s0.1)], [.gone, vecL (encI .i32) 1 21 s0.2])) h1 [0, 1, 6, 8, 9] (fun s0 x47 hs0 => kq (kS (kBT 10 hs0 (fun h2 => kKN (kS (kb 1 (km 3 (kAp 14 1 3 1 21 [1, 2] (encI .i32) h2 (fun h4 => ke 1 (PJ.blockNormal (PJ.next (kM (kLW h4 hFH hFD [0, 3])))))))))) (fun h3 => kEp 0 (kLx h3 (fun h5 => PJ.blockOut (kNo h5 [0, 6])))))))))))) (fun s1 h0 => kq (kX (by obtain rfl := oi h0; exact kRV [0, 1] (.inr rfl) hFn hFH hFD)))))
def pat_grouped (x0 : St32) (x1 : Int) : Option (Bool) :=
 (Option.bind (Option.bind (bif (decide (x0.G1_ < 1)) then (some true) else (some (decide (x1 < x0.G1_)))) fun (s0 : Bool) => (bif s0 then (some (.inr false)) else (some (.inl ())))) (joinX fun (s2 : Unit) => (Option.bind (bif (decide (x1 = x0.G1_)) then (some true) else (bif (decide (x0.G2_ > 0)) then (bif nz x0.G2_ then (some ((decide (((Int.tmod (IntKind.wrap .i64 (x1 - x0.G1_)) x0.G2_)) = 0)))) else none) else (some false))) fun (s1 : Bool) => (some s1))))
theorem pat_grouped_ok {x0 : St32} {x1 : Int} {r : Bool} (h : pat_grouped x0 x1 = some r) : SC Tryz.prog 204 [.agg (encSt32 x0), iL x1] [] (.bool r) [] := by
 refine kFn (fn := Tryz.f204) (fun F hFn hFH hFD => ?_)
 unfold pat_grouped at h
 refine kq (kcX h (fun (s2 : Unit) => ([(1, iL x1), (2, .ptr 0 0), (4, .bool false)], [.box (encSt32 x0)])) (fun y0 hy0 h0 => ?_) (fun s2 h1 => ?_))
 ·exact kcN hy0 (fun (s0 : Bool) => ([(1, iL x1), (2, .ptr 0 0), (4, .bool false), (13, .bool s0)], [.box (encSt32 x0)])) (fun s0 hy1 => km 4 (kB 8 hy1 (fun h3 => ke 5 (kNo h3 [1, 2, 4, 13])) (fun h4 => ke 5 (kNo h4 [1, 2, 4, 13])))) (fun s0 h2 => kBT 13 h2 (fun h5 => kq (kX (kCx h5 h0 (fun h7 => by obtain rfl := oi h7; exact kZ hFn hFH hFD)))) (fun h6 => kK (kXo h6 [1, 2, 4])))
 ·refine kcN h1 (fun (s1 : Bool) => ([(4, .bool s1)], [])) (fun s1 hy2 => ?_) (fun s1 h8 => ?_)
  ·refine km 5 (kB 18 hy2 (fun h9 => ?_) (fun h10 => ?_))
   ·exact ke 15 (kNW h9 hFH hFD [])
   ·refine kc 4 (kB 22 h10 (fun h11 => ?_) (fun h12 => ?_))
    ·refine kc 6 ?_
     obtain ⟨hm, h13⟩ := asrt h11
     exact kQ 29 (iL (Int.tmod (IntKind.wrap .i64 (x1 - x0.G1_)) x0.G2_)) [] (tr2 := []) hm (ke 4 (kNW h13 hFH hFD []))
    ·exact ke 11 (kNW h12 hFH hFD [])
  ·exact kX (by obtain rfl := oi h8; exact kZ hFn hFH hFD)
def pat_places (x0 : List Int) (x1 : St32) : Option (List Int) :=
 (Option.bind (pat_some x1.Hash_) fun y0 => (Option.bind (pat_some x1.MinInt_) fun y1 => (Option.bind (loopN (fun (s0 : Int × (List Int)) => (bif (decide (s0.1 < (IntKind.wrap .i64 (y0 + y1)))) then (Option.bind (Option.bind (Option.bind (bif (decide (s0.1 > 0)) then (Option.bind (pat_grouped x1 ((IntKind.wrap .i64 ((IntKind.wrap .i64 (y0 + y1)) - s0.1)))) fun y2 => (some y2)) else (some false)) fun (s2 : Bool) => (bif s2 then (bif room (s0.2.length + ([44] : List Int).length) then (some (s0.2 ++ ([44] : List Int))) else none) else (some s0.2))) fun (s1 : (List Int)) => (bif (decide (s0.1 < y0)) then (bif room (s1.length + ([35] : List Int).length) then (some (s1 ++ ([35] : List Int))) else none) else (bif room (s1.length + ([48] : List Int).length) then (some (s1 ++ ([48] : List Int))) else none))) fun (s3 : (List Int)) => (some (.inl ((IntKind.wrap .i64 (s0.1 + 1)), s3)))) else (some (.inr s0.2)))) big (0, x0)) fun (s4 : (List Int)) => (some s4))))
theorem pat_places_ok_0o {x0 : List Int} {x1 : St32} {r : List Int} (h : pat_places x0 x1 = some r) : SC Tryz.prog 189 [.vc 0, .agg (encSt32 x1)] [vecL (encI .i32) 1 21 x0] (.vc 1) [.gone, vecL (encI .i32) 1 21 r] := by
 refine kFn (fn := Tryz.f189) (fun F hFn hFH hFD => ?_)
 unfold pat_places at h
 exact J.wk (Wk.move 0 (n := x0.length) (k := 1) (e := 21) (cs := x0.flatMap (encI .i32)) (by kernel_rfl)) (kq (kn 2 (kAb 10 h (fun _ => pat_some_ok) (fun y0 h0 => kr 1 (kn 3 (kAb 14 h0 (fun _ => pat_some_ok) (fun y1 h1 => kr 2 (kcN h1 (fun (s4 : (List Int)) => ([(0, .vc 1), (4, .nl)], [.gone, vecL (encI .i32) 1 21 s4])) (fun s4 hy0 => kq (kb 0 (kl (fun (s0 : Int × (List Int)) => ([(0, .vc 1), (3, .ptr 2 0), (4, .nl), (5, iL y0), (6, iL (IntKind.wrap .i64 (y0 + y1))), (16, iL (IntKind.wrap .i64 (y0 + y1))), (17, iL s0.1)], [.gone, vecL (encI .i32) 1 21 s0.2, .box (encSt32 x1)])) hy0 [0, 3, 4, 5, 6, 16, 17] (fun s0 x587 hs0 => kq (kS (kBT 18 hs0 (fun h3 => kKN (kcN h3 (fun (s3 : (List Int)) => ([(0, .vc 1), (3, .ptr 2 0), (4, .nl), (5, iL y0), (6, iL (IntKind.wrap .i64 (y0 + y1))), (16, iL (IntKind.wrap .i64 (y0 + y1))), (17, iL s0.1)], [.gone, vecL (encI .i32) 1 21 s3, .box (encSt32 x1)])) (fun s3 hy1 => kb 1 (kq (kcN hy1 (fun (s1 : (List Int)) => ([(0, .vc 1), (3, .ptr 2 0), (4, .nl), (5, iL y0), (6, iL (IntKind.wrap .i64 (y0 + y1))), (7, iL s0.1), (16, iL (IntKind.wrap .i64 (y0 + y1))), (17, iL s0.1)], [.gone, vecL (encI .i32) 1 21 s1, .box (encSt32 x1)])) (fun s1 hy2 => kcN hy2 (fun (s2 : Bool) => ([(0, .vc 1), (3, .ptr 2 0), (4, .nl), (5, iL y0), (6, iL (IntKind.wrap .i64 (y0 + y1))), (7, iL s0.1), (16, iL (IntKind.wrap .i64 (y0 + y1))), (17, iL s0.1), (28, .bool s2)], [.gone, vecL (encI .i32) 1 21 s0.2, .box (encSt32 x1)])) (fun s2 hy3 => km 3 (kB 22 hy3 (fun h8 => kc 4 (kAb 27 h8 (fun _ => pat_grouped_ok) (fun y2 h10 => ke 1 (kNo h10 [0, 3, 4, 5, 6, 7, 16, 17, 28])))) (fun h9 => ke 6 (kNo h9 [0, 3, 4, 5, 6, 7, 16, 17, 28])))) (fun s2 h7 => kBT 28 h7 (fun h11 => km 2 (kAp 31 1 4 1 21 [1, 3] (encI .i32) h11 (fun h13 => ke 1 (kNW h13 hFH hFD [0, 4, 2])))) (fun h12 => kK (kNo h12 [0, 3, 4, 5, 6, 7, 16, 17])))) (fun s1 h6 => kq (kBT 34 h6 (fun h14 => km 2 (kAp 37 1 4 1 21 [1, 3] (encI .i32) h14 (fun h16 => ke 1 (PJ.blockNormal (kNW h16 hFH hFD [0, 4, 2]))))) (fun h15 => km 2 (kAp 40 1 4 1 21 [1, 3] (encI .i32) h15 (fun h17 => ke 1 (PJ.blockNormal (kNW h17 hFH hFD [0, 4, 2])))))))))) (fun s3 h5 => kM (kLo h5 [0, 3, 4, 5, 6, 16, 17])))) (fun h4 => kEp 0 (kLx h4 (fun h18 => PJ.blockOut (kNW h18 hFH hFD [0, 1])))))))))) (fun s4 h2 => kq (kX (by obtain rfl := oi h2; exact kRV [0, 1] (.inr rfl) hFn hFH hFD)))))))))))
def pat_number (x0 : St32) : Option (List Int) :=
 (Option.bind (Option.bind (bif (decide (x0.MinSig_ > 0)) then (some true) else (some (decide (x0.MaxSig_ > 0)))) fun (s2 : Bool) => (bif s2 then (Option.bind (pat_repeat ([] : List Int) 64 x0.MinSig_) fun y5 => (Option.bind (pat_some x0.MinSig_) fun y0 => (Option.bind (pat_repeat y5 35 (IntKind.wrap .i64 (x0.MaxSig_ - y0))) fun y2 => (some y2)))) else (Option.bind (pat_places ([] : List Int) x0) fun y3 => (bif (decide (¬ x0.MaxFrac_ = 0)) then (bif room (y3.length + ([46] : List Int).length) then (Option.bind (pat_repeat (y3 ++ ([46] : List Int)) 48 x0.MinFrac_) fun y6 => (Option.bind (pat_some x0.MinFrac_) fun y1 => (Option.bind (pat_repeat y6 35 (IntKind.wrap .i64 (x0.MaxFrac_ - y1))) fun y4 => (some y4)))) else none) else (some y3))))) fun (s0 : (List Int)) => (Option.bind (bif (decide (¬ x0.Exp_ = 0)) then (bif room (s0.length + ([69] : List Int).length) then (Option.bind (bif x0.ExpPlus_ then (bif room ((s0 ++ ([69] : List Int)).length + ([43] : List Int).length) then (some (((s0 ++ ([69] : List Int)) ++ ([43] : List Int)))) else none) else (some (s0 ++ ([69] : List Int)))) fun (s3 : (List Int)) => (Option.bind (pat_repeat s3 48 x0.Exp_) fun y7 => (some y7))) else none) else (some s0)) fun (s1 : (List Int)) => (some s1)))
theorem pat_number_ok {x0 : St32} {r : List Int} (h : pat_number x0 = some r) : SC Tryz.prog 168 [.agg (encSt32 x0)] [] (lR r) [] := by
 refine kFn (fn := Tryz.f168) (fun F hFn hFH hFD => ?_)
 unfold pat_number at h
 refine kq (kq (kcN h (fun (s0 : (List Int)) => ([(1, .ptr 0 0), (2, .nl), (3, .vc 1)], [.box (encSt32 x0), vecL (encI .i32) 1 21 s0])) (fun s0 hy0 => ?_) (fun s0 h0 => ?_)))
 ·refine kcN hy0 (fun (s2 : Bool) => ([(1, .ptr 0 0), (2, .nl), (3, .nl), (11, .bool s2)], [.box (encSt32 x0)])) (fun s2 hy1 => ?_) (fun s2 h1 => ?_)
  ·exact km 4 (kB 7 hy1 (fun h2 => ke 4 (kNo h2 [1, 2, 3, 11])) (fun h3 => ke 4 (kNo h3 [1, 2, 3, 11])))
  ·refine kBT 11 h1 (fun h4 => ?_) (fun h5 => ?_)
   ·refine kn 3 ?_
    obtain ⟨y5, hy2, h6⟩ := bindS h4
    refine RJ.wk (Wk.viv 12 1 21 (by kernel_rfl)) (kCg (some 15) [1] (pat_repeat_ok_0o hy2) (kr 1 (kDr (kD 5 ?_))))
    obtain ⟨y0, hy3, h7⟩ := bindS h6
    refine RJ.call0 (d := (some 21)) (f := 188) (args := [iL x0.MinSig_]) (v := iL y0) (tr2 := [([], []), ([], []), ([0, 1], []), ([], []), ([0, 1], []), ([], [6, 7])]) (by kernel_rfl) (by kernel_rfl) (.cons (Le.refl _) .nil) (pat_some_ok hy3) (by kernel_rfl) (kD 1 ?_)
    obtain ⟨y2, hy4, h8⟩ := bindS h7
    exact RJ.callX (d := (some 23)) (f := 187) (args := [.vc 2, iM 35, iL (IntKind.wrap .i64 (x0.MaxSig_ - y0))]) (args0 := [.vc 0, iM 35, iL (IntKind.wrap .i64 (x0.MaxSig_ - y0))]) (v0 := .vc 1) (v := .vc 4) (tr2 := [([], []), ([], []), ([0, 1], []), ([], []), ([0, 1], []), ([], [6, 7]), ([], []), ([4, 5], [4, 5, 8, 9, 8, 9])]) (H0 := [vecL (encI .i32) 1 21 y5]) (H0' := [.gone, vecL (encI .i32) 1 21 y2]) (H2 := [.box (encSt32 x0), .gone, .gone, .res, vecL (encI .i32) 1 21 y2]) 4 [2] (by kernel_rfl) (by kernel_rfl) (by kernel_rfl) (by kernel_rfl) (by kernel_rfl) (by kernel_rfl) (by decide) (by kernel_rfl) (by kernel_rfl) (by kernel_rfl) (.cons (Le.refl _) (.cons (Le.refl _) (.cons (Le.refl _) .nil))) (pat_repeat_ok_0o hy4) (by kernel_rfl) (by kernel_rfl) (by kernel_rfl) (kD 1 (kE (kNW h8 hFH hFD [0, 4])))
   ·refine kn 2 ?_
    obtain ⟨y3, hy5, h9⟩ := bindS h5
    refine RJ.wk (Wk.viv 24 1 21 (by kernel_rfl)) (kCg (some 26) [1] (pat_places_ok_0o hy5) (kr 1 (kq (kBT 29 h9 (fun h10 => ?_) (fun h11 => ?_)))))
    ·refine kn 2 (kAp 32 2 4 1 21 [2, 3] (encI .i32) h10 (fun h12 => kr 1 (kn 3 ?_)))
     obtain ⟨y6, hy6, h13⟩ := bindS h12
     refine kCg (some 36) [4] (pat_repeat_ok_0o hy6) (kr 1 (kDr (kD 5 ?_)))
     obtain ⟨y1, hy7, h14⟩ := bindS h13
     refine RJ.call0 (d := (some 42)) (f := 188) (args := [iL x0.MinFrac_]) (v := iL y1) (tr2 := [([], []), ([], []), ([0, 1], []), ([], []), ([0, 1], []), ([], [12, 13])]) (by kernel_rfl) (by kernel_rfl) (.cons (Le.refl _) .nil) (pat_some_ok hy7) (by kernel_rfl) (kD 1 ?_)
     obtain ⟨y4, hy8, h15⟩ := bindS h14
     exact RJ.callX (d := (some 44)) (f := 187) (args := [.vc 5, iM 35, iL (IntKind.wrap .i64 (x0.MaxFrac_ - y1))]) (args0 := [.vc 0, iM 35, iL (IntKind.wrap .i64 (x0.MaxFrac_ - y1))]) (v0 := .vc 1) (v := .vc 7) (tr2 := [([], []), ([], []), ([0, 1], []), ([], []), ([0, 1], []), ([], [12, 13]), ([], []), ([10, 11], [10, 11, 14, 15, 14, 15])]) (H0 := [vecL (encI .i32) 1 21 y6]) (H0' := [.gone, vecL (encI .i32) 1 21 y4]) (H2 := [.box (encSt32 x0), .gone, .gone, vecL (encI .i32) 1 21 ([46] : List Int), .gone, .gone, .res, vecL (encI .i32) 1 21 y4]) 7 [5] (by kernel_rfl) (by kernel_rfl) (by kernel_rfl) (by kernel_rfl) (by kernel_rfl) (by kernel_rfl) (by decide) (by kernel_rfl) (by kernel_rfl) (by kernel_rfl) (.cons (Le.refl _) (.cons (Le.refl _) (.cons (Le.refl _) .nil))) (pat_repeat_ok_0o hy8) (by kernel_rfl) (by kernel_rfl) (by kernel_rfl) (kD 1 (kE (kNW h15 hFH hFD [0, 7])))
    ·exact kK (kNW h11 hFH hFD [0, 2])
 ·refine kcN h0 (fun (s1 : (List Int)) => ([(2, .nl), (3, .vc 0)], [vecL (encI .i32) 1 21 s1])) (fun s1 hy9 => ?_) (fun s1 h16 => ?_)
  ·refine kq (kBT 47 hy9 (fun h17 => ?_) (fun h18 => ?_))
   ·refine kn 2 (kAp 50 1 3 1 21 [1, 2] (encI .i32) h17 (fun h19 => kr 1 (kcN h19 (fun (s3 : (List Int)) => ([(1, .ptr 0 0), (2, .nl), (3, .vc 1)], [.box (encSt32 x0), vecL (encI .i32) 1 21 s3])) (fun s3 hy10 => ?_) (fun s3 h20 => ?_))))
    ·exact kq (kBT 52 hy10 (fun h21 => km 2 (kAp 55 3 5 1 21 [3, 4] (encI .i32) h21 (fun h23 => ke 1 (kNW h23 hFH hFD [0, 5])))) (fun h22 => kK (kNW h22 hFH hFD [0, 3])))
    ·refine km 3 ?_
     obtain ⟨y7, hy11, h24⟩ := bindS h20
     exact kCg (some 59) [1] (pat_repeat_ok_0o hy11) (ke 1 (kNW h24 hFH hFD [2]))
   ·exact kK (kNW h18 hFH hFD [1])
  ·exact kq (kX (by obtain rfl := oi h16; exact PJ.wk (Wk.freeze 0 (n := s1.length) (k := 1) (e := 21) (cs := s1.flatMap (encI .i32)) (by kernel_rfl)) (kZ hFn hFH hFD)))
def pat_pad (x0 : List Int) (x1 : St32) (x2 : Int) : Option (List Int) :=
 (bif (decide (¬ x1.PadAt_ = x2)) then (some x0) else (bif room (x0.length + ([42, x1.Pad_] : List Int).length) then (some (x0 ++ ([42, x1.Pad_] : List Int))) else none))
theorem pat_pad_ok_0o {x0 : List Int} {x1 : St32} {x2 : Int} {r : List Int} (h : pat_pad x0 x1 x2 = some r) : SC Tryz.prog 169 [.vc 0, .agg (encSt32 x1), iL x2] [vecL (encI .i32) 1 21 x0] (.vc 1) [.gone, vecL (encI .i32) 1 21 r] := by
 refine kFn (fn := Tryz.f169) (fun F hFn hFH hFD => ?_)
 unfold pat_pad at h
 exact J.wk (Wk.move 0 (n := x0.length) (k := 1) (e := 21) (cs := x0.flatMap (encI .i32)) (by kernel_rfl)) (kq (kS (kq (kBT 10 h (fun h0 => kq (kX (PJ.passRet (by obtain rfl := oi h0; exact kRV [0, 1] (.inr rfl) hFn hFH hFD)))) (fun h1 => kKN (kn 4 (kAp 16 1 4 1 21 [1, 3] (encI .i32) h1 (fun h2 => kr 1 (kX (by obtain rfl := oi h2; exact kRV [0, 4] (.inr rfl) hFn hFH hFD))))))))))
def pat_piece (x0 : St106) : Option (List Int) :=
 (bif (decide (x0.Kind_ = 0)) then (bif (decide (x0.R_ = 39)) then (some ([x0.R_, x0.R_] : List Int)) else (some ([x0.R_] : List Int))) else (Option.bind (Option.bind pat_signs_s0 fun y0 => (Option.bind (mapRun (fun (e41 : Int × Int) => (bif (decide (e41.2 = x0.Kind_)) then (some (.inr (.inr ([e41.1] : List Int)))) else (some (.inl ())))) ([(45, 1), (43, 2), (37, 3), (164, 4)] : List (Int × Int))) (joinX fun (_ : Unit) => (some (.inl ()))))) (joinX fun (s0 : Unit) => (some ([] : List Int)))))
theorem pat_piece_ok {x0 : St106} {r : List Int} (h : pat_piece x0 = some r) : SC Tryz.prog 190 [.agg (encSt106 x0)] [] (lR r) [] := by
 refine kFn (fn := Tryz.f190) (fun F hFn hFH hFD => ?_)
 unfold pat_piece at h
 refine kq (kS (kq (kBT 7 h (fun h1 => ?_) (fun h2 => ?_))))
 ·exact kS (kq (kBT 10 h1 (fun h3 => kq (kX (PJ.passRet (PJ.passRet (by obtain rfl := oi h3; exact PJ.wk (Wk.freeze 1 (n := ([x0.R_, x0.R_] : List Int).length) (k := 1) (e := 21) (cs := ([x0.R_, x0.R_] : List Int).flatMap (encI .i32)) (by kernel_rfl)) (kZ hFn hFH hFD)))))) (fun h4 => kKN (kq (kX (PJ.passRet (by obtain rfl := oi h4; exact PJ.wk (Wk.freeze 1 (n := ([x0.R_] : List Int).length) (k := 1) (e := 21) (cs := ([x0.R_] : List Int).flatMap (encI .i32)) (by kernel_rfl)) (kZ hFn hFH hFD))))))))
 ·refine kKN (kcX h2 (fun (s0 : Unit) => ([(2, .nl)], [])) (fun y1 hy0 h5 => ?_) (fun s0 h6 => ?_))
  ·refine kSR ?_
   obtain ⟨y0, hy1, h7⟩ := bindS hy0
   refine kCg (some 19) [] (pat_signs_s0_ok hy1) (RJ.range (d := (some 20)) (i := 1) (n := (mapL (fun k : Int => iM k) (fun k : Int => iL k) ([(45, 1), (43, 2), (37, 3), (164, 4)] : List (Int × Int))).length) (by kernel_rfl) (kEN (kb 0 (J.wk (Wk.sel (L2 := [(1, .ptr 0 0), (2, .nl), (20, .ptr 1 0)]) (H2 := [.box (encSt106 x0), .itr 2 ((mapL (fun k : Int => iM k) (fun k : Int => iL k) ([(45, 1), (43, 2), (37, 3), (164, 4)] : List (Int × Int))).length) ([] : List Nat), .map (mapL (fun k : Int => iM k) (fun k : Int => iL k) ([(45, 1), (43, 2), (37, 3), (164, 4)] : List (Int × Int)))]) 0 (by rw [hFH]; rfl) hFD [0, 2, 1] (by kernel_rfl) (by simp only [List.map_cons, List.map_nil, rn_mapL (ek := (fun k : Int => iM k)) (ev := (fun k : Int => iL k)) (fun _ _ => rfl) (fun _ _ => rfl)]; kernel_rfl) (by decide) (by simp only [List.all_cons, List.all_nil, refs_mapL (ek := (fun k : Int => iM k)) (ev := (fun k : Int => iL k)) (fun _ _ => rfl) (fun _ _ => rfl)]; kernel_rfl) (by kernel_rfl) (by kernel_rfl) (by kernel_rfl)) ?_))))
   obtain ⟨y2, hy2, h0⟩ := bindS h7
   refine K.mapLoop 20 21 22 0 1 2 (n := (mapL (fun k : Int => iM k) (fun k : Int => iL k) ([(45, 1), (43, 2), (37, 3), (164, 4)] : List (Int × Int))).length) (by kernel_rfl) (by kernel_rfl) _ _ (fun p : Int × Int => ((fun k : Int => iM k) p.1, (fun k : Int => iL k) p.2)) hy2 [1, 2, 20] (L2 := [(1, .ptr 0 0), (2, .nl), (20, .ptr 1 0)]) (by kernel_rfl) (by kernel_rfl) (by kernel_rfl) (by kernel_rfl) (by kernel_rfl) (by kernel_rfl) (fun sq => [.box (encSt106 x0), .itr 2 ((mapL (fun k : Int => iM k) (fun k : Int => iL k) ([(45, 1), (43, 2), (37, 3), (164, 4)] : List (Int × Int))).length) sq, .map (mapL (fun k : Int => iM k) (fun k : Int => iL k) ([(45, 1), (43, 2), (37, 3), (164, 4)] : List (Int × Int)))]) (by kernel_rfl) (fun _ _ => by kernel_rfl) (fun _ => by kernel_rfl) (fun _ => by kernel_rfl) rfl (fun sv42 he0 => ?_) (fun sv42 bv43 e41 x51 hb0 hx38 => ?_)
   ·subst he0
    have h8 := joinX_inl h0
    exact PJ.blockOut (kXW h8 hFH hFD [])
   ·refine kb 1 (kSR (RJ.entry (d := (some 23)) (i := 2) (n := (mapL (fun k : Int => iM k) (fun k : Int => iL k) ([(45, 1), (43, 2), (37, 3), (164, 4)] : List (Int × Int))).length) (b := bv43) (s := sv42) (kv := ((iM e41.1 : SV), (iL e41.2 : SV))) (by kernel_rfl) (by kernel_rfl) rfl hb0 (kr 4 (kq (kBT 29 hx38 (fun h9 => ?_) (fun h10 => ?_))))))
    ·refine kq (kXb ?_)
     obtain rfl := oi h9
     refine PJ.mapOut (fun e => nomatch e) (fun he1 => ?_)
     subst he1
     have h11 := joinX_inr h0
     exact PJ.blockRet (kCx h11 h5 (fun h12 => by obtain rfl := oi h12; exact PJ.wk (Wk.freeze 3 (n := ([e41.1] : List Int).length) (k := 1) (e := 21) (cs := ([e41.1] : List Int).flatMap (encI .i32)) (by kernel_rfl)) (kZ hFn hFH hFD)))
    ·exact kKb (by obtain rfl := oi h10; exact PJ.mapNext [1, 2, 20] (by kernel_rfl) (by kernel_rfl))
  ·exact kq (kX (by obtain rfl := oi h6; exact PJ.res (v1 := .nl) (Le.nl _) (kZ hFn hFH hFD)))
def pat_affix (x0 : List Int) (x1 : List St106) : Option (List Int) :=
 (Option.bind (loopN (fun (s0 : Bool × Int × (List Int)) => (bif (decide (s0.2.1 < (x1.length : Int))) then (Option.bind (bif inR s0.2.1 x1.length then (Option.bind (bif (decide (((nth x1 s0.2.1).Kind_) = 0)) then (some ((decide (((nth x1 s0.2.1).R_) = 39)))) else (some false)) fun (s3 : Bool) => (Option.bind (bif s3 then (bif s0.1 then (some true) else (bif (!s3) then (bif (decide (((nth x1 s0.2.1).Kind_) = 0)) then (Option.bind (pat_special ((nth x1 s0.2.1).R_)) fun y1 => (some y1)) else (some false)) else (some false))) else (bif (!s3) then (bif (decide (((nth x1 s0.2.1).Kind_) = 0)) then (Option.bind (pat_special ((nth x1 s0.2.1).R_)) fun y2 => (some y2)) else (some false)) else (some false))) fun (s5 : Bool) => (Option.bind (bif (s5 != s0.1) then (bif room (s0.2.2.length + ([39] : List Int).length) then (some (s5, (s0.2.2 ++ ([39] : List Int)))) else none) else (some (s0.1, s0.2.2))) fun (s2 : Bool × (List Int)) => (Option.bind (pat_piece (nth x1 s0.2.1)) fun y0 => (bif room (s2.2.length + y0.length) then (some (s2.1, (s2.2 ++ y0))) else none))))) else none) fun (s4 : Bool × (List Int)) => (some (.inl (s4.1, (IntKind.wrap .i64 (s0.2.1 + 1)), s4.2)))) else (some (.inr (s0.1, s0.2.2))))) big (false, 0, x0)) fun (s1 : Bool × (List Int)) => (Option.bind (bif s1.1 then (bif room (s1.2.length + ([39] : List Int).length) then (some (s1.2 ++ ([39] : List Int))) else none) else (some s1.2)) fun (s6 : (List Int)) => (some s6)))
theorem pat_affix_ok_0o {x0 : List Int} {x1 : List St106} {r : List Int} (h : pat_affix x0 x1 = some r) : SC Tryz.prog 170 [.vc 0, lsv encSt106 2 x1] [vecL (encI .i32) 1 21 x0] (.vc 1) [.gone, vecL (encI .i32) 1 21 r] := by
 refine kFn (fn := Tryz.f170) (fun F hFn hFH hFD => ?_)
 unfold pat_affix at h
 exact J.wk (Wk.move 0 (n := x0.length) (k := 1) (e := 21) (cs := x0.flatMap (encI .i32)) (by kernel_rfl)) (kq (kq (kcN h (fun (s1 : Bool × (List Int)) => ([(0, .vc 1), (4, .nl), (5, .bool s1.1)], [.gone, vecL (encI .i32) 1 21 s1.2])) (fun s1 hy0 => kq (kb 0 (kl (fun (s0 : Bool × Int × (List Int)) => ([(0, .vc 1), (4, .nl), (5, .bool s0.1), (10, lsv encSt106 2 x1), (11, iL (x1.length : Int)), (12, iL s0.2.1)], [.gone, vecL (encI .i32) 1 21 s0.2.2])) hy0 [0, 4, 5, 10, 11, 12] (fun s0 x857 hs0 => kq (kS (kBT 13 hs0 (fun h1 => kKN (kcN h1 (fun (s4 : Bool × (List Int)) => ([(0, .vc 1), (4, .nl), (5, .bool s4.1), (10, lsv encSt106 2 x1), (11, iL (x1.length : Int)), (12, iL s0.2.1)], [.gone, vecL (encI .i32) 1 21 s4.2])) (fun s4 hy1 => kb 1 (kSR (kIb 14 encSt106_len hy1 (fun h4 => kr 3 (kcN h4 (fun (s3 : Bool) => ([(0, .vc 1), (4, .nl), (5, .bool s0.1), (7, .ptr 2 0), (8, .bool s3), (10, lsv encSt106 2 x1), (11, iL (x1.length : Int)), (12, iL s0.2.1)], [.gone, vecL (encI .i32) 1 21 s0.2.2, .box [iL ((nth x1 s0.2.1).Kind_), iM ((nth x1 s0.2.1).R_)]])) (fun s3 hy2 => km 4 (kB 19 hy2 (fun h6 => ke 5 (kNo h6 [0, 4, 5, 7, 8, 10, 11, 12])) (fun h7 => ke 5 (kNo h7 [0, 4, 5, 7, 8, 10, 11, 12])))) (fun s3 h5 => kcN h5 (fun (s5 : Bool) => ([(0, .vc 1), (4, .nl), (5, .bool s0.1), (7, .ptr 2 0), (9, .bool s5), (10, lsv encSt106 2 x1), (11, iL (x1.length : Int)), (12, iL s0.2.1)], [.gone, vecL (encI .i32) 1 21 s0.2.2, .box [iL ((nth x1 s0.2.1).Kind_), iM ((nth x1 s0.2.1).R_)]])) (fun s5 hy3 => km 2 (kB 25 hy3 (fun h9 => kc 3 (kB 28 h9 (fun h11 => ke 14 (kNo h11 [0, 4, 5, 7, 9, 10, 11, 12])) (fun h12 => kc 3 (kB 31 h12 (fun h13 => kc 5 (kB 36 h13 (fun h15 => kc 2 (kAb 39 h15 (fun _ => pat_special_ok) (fun y1 h17 => ke 3 (kNo h17 [0, 4, 5, 7, 9, 10, 11, 12])))) (fun h16 => ke 6 (kNo h16 [0, 4, 5, 7, 9, 10, 11, 12])))) (fun h14 => ke 11 (kNo h14 [0, 4, 5, 7, 9, 10, 11, 12])))))) (fun h10 => kc 6 (kB 31 h10 (fun h18 => kc 5 (kB 36 h18 (fun h20 => kc 2 (kAb 39 h20 (fun _ => pat_special_ok) (fun y2 h22 => ke 3 (kNo h22 [0, 4, 5, 7, 9, 10, 11, 12])))) (fun h21 => ke 6 (kNo h21 [0, 4, 5, 7, 9, 10, 11, 12])))) (fun h19 => ke 11 (kNo h19 [0, 4, 5, 7, 9, 10, 11, 12])))))) (fun s5 h8 => kcN h8 (fun (s2 : Bool × (List Int)) => ([(0, .vc 1), (4, .nl), (5, .bool s2.1), (7, .ptr 2 0), (10, lsv encSt106 2 x1), (11, iL (x1.length : Int)), (12, iL s0.2.1)], [.gone, vecL (encI .i32) 1 21 s2.2, .box [iL ((nth x1 s0.2.1).Kind_), iM ((nth x1 s0.2.1).R_)]])) (fun s2 hy4 => kq (kBT 44 hy4 (fun h24 => kn 2 (kAp 47 1 4 1 21 [1, 3] (encI .i32) h24 (fun h26 => kr 1 (kM (kNW h26 hFH hFD [0, 4, 2]))))) (fun h25 => kK (kNo h25 [0, 4, 5, 7, 10, 11, 12])))) (fun s2 h23 => km 2 (kAb 51 h23 (fun _ => pat_piece_ok) (fun y0 h27 => kAp 52 1 3 1 21 [1] (encI .i32) h27 (fun h28 => ke 1 (PJ.blockNormal (kNW h28 hFH hFD [0, 3]))))))))))))) (fun s4 h3 => kM (kLo h3 [0, 4, 5, 10, 11, 12])))) (fun h2 => kEp 0 (kLx h2 (fun h29 => PJ.blockOut (kNo h29 [0, 4, 5])))))))))) (fun s1 h0 => kcN h0 (fun (s6 : (List Int)) => ([(0, .vc 1), (4, .nl)], [.gone, vecL (encI .i32) 1 21 s6])) (fun s6 hy5 => kq (kBT 54 hy5 (fun h31 => km 2 (kAp 57 1 3 1 21 [1, 2] (encI .i32) h31 (fun h33 => ke 1 (kNW h33 hFH hFD [0, 3])))) (fun h32 => kK (kNo h32 [0, 4])))) (fun s6 h30 => kq (kX (by obtain rfl := oi h30; exact kRV [0, 1] (.inr rfl) hFn hFH hFD)))))))
def pat_pattern (x0 : St32) : Option (List Int) :=
 (Option.bind (pat_number x0) fun y0 => (Option.bind (pat_pad ([] : List Int) x0 1) fun y5 => (Option.bind (pat_affix y5 x0.Pre_) fun y6 => (Option.bind (pat_pad y6 x0 2) fun y3 => (bif room (y3.length + y0.length) then (Option.bind (pat_pad (y3 ++ y0) x0 3) fun y7 => (Option.bind (pat_affix y7 x0.Suf_) fun y8 => (Option.bind (pat_pad y8 x0 4) fun y1 => (Option.bind (bif x0.Neg_ then (bif room (y1.length + ([59] : List Int).length) then (Option.bind (pat_affix (y1 ++ ([59] : List Int)) x0.NPre_) fun y2 => (bif room (y2.length + y0.length) then (Option.bind (pat_affix (y2 ++ y0) x0.NSuf_) fun y4 => (some y4)) else none)) else none) else (some y1)) fun (s0 : (List Int)) => (some s0))))) else none)))))
theorem pat_pattern_ok {x0 : St32} {r : List Int} (h : pat_pattern x0 = some r) : SC Tryz.prog 145 [.agg (encSt32 x0)] [] (lR r) [] := by
 refine kFn (fn := Tryz.f145) (fun F hFn hFH hFD => ?_)
 unfold pat_pattern at h
 refine kq (kn 1 (kAb 6 h (fun _ => pat_number_ok) (fun y0 h0 => kr 1 (kn 1 ?_))))
 obtain ⟨y5, hy0, h1⟩ := bindS h0
 refine kCG (some 8) (args := [.nl, .agg (encSt32 x0), iL 1]) (v := .vc 2) (H2 := [.box (encSt32 x0), .gone, vecL (encI .i32) 1 21 y5]) [] (SC.nil (args1 := []) (args2 := [.agg (encSt32 x0), iL 1]) (H0 := []) (k := 1) (e := 21) (pat_pad_ok_0o hy0)) (kr 1 (kn 3 ?_))
 obtain ⟨y6, hy1, h2⟩ := bindS h1
 refine kCg (some 12) [2] (pat_affix_ok_0o hy1) (kr 1 (kn 2 ?_))
 obtain ⟨y3, hy2, h3⟩ := bindS h2
 refine kCg (some 15) [3] (pat_pad_ok_0o hy2) (RJ.seg 1 [1, 2, 3, 4] (L2 := [(1, .ptr 0 0), (2, .nl), (3, lR y0), (4, .vc 4)]) (H2 := [.box (encSt32 x0), .gone, .gone, .gone, vecL (encI .i32) 1 21 y3]) (by kernel_rfl) (kEN (kn 2 (kAp 18 4 5 1 21 [4] (encI .i32) h3 (fun h4 => kr 1 (kn 2 ?_))))))
 obtain ⟨y7, hy3, h5⟩ := bindS h4
 refine kCg (some 21) [5] (pat_pad_ok_0o hy3) (kr 1 (kn 3 ?_))
 obtain ⟨y8, hy4, h6⟩ := bindS h5
 refine kCg (some 25) [6] (pat_affix_ok_0o hy4) (kr 1 (kn 2 ?_))
 obtain ⟨y1, hy5, h7⟩ := bindS h6
 refine kCg (some 28) [7] (pat_pad_ok_0o hy5) (kr 1 (kcN h7 (fun (s0 : (List Int)) => ([(2, .nl), (4, .vc 0)], [vecL (encI .i32) 1 21 s0])) (fun s0 hy6 => ?_) (fun s0 h8 => ?_)))
 ·refine kSR (RJ.seg 2 [1, 2, 3, 4, 30] (L2 := [(1, .ptr 0 0), (2, .nl), (3, lR y0), (4, .vc 8), (30, .bool x0.Neg_)]) (H2 := [.box (encSt32 x0), .gone, .gone, .gone, .gone, .gone, .gone, .gone, vecL (encI .i32) 1 21 y1]) (by kernel_rfl) (kEN (kBT 30 hy6 (fun h9 => ?_) (fun h10 => ?_))))
  ·refine kS (kDr (kD 2 ?_))
   obtain ⟨hm, h11⟩ := asrt h9
   refine RJ.rel (d := (some 33)) (ef := ⟨.vc 10, [8, 9], [(8, .gone), (10, .vec (y1.length + ([59] : List Int).length) 1 21 (y1.flatMap (encI .i32) ++ ([59] : List Int).flatMap (encI .i32)))]⟩) (ef' := ⟨.vc 10, [8, 9], [(8, .gone), (10, vecL (encI .i32) 1 21 (y1 ++ ([59] : List Int)))]⟩) (c := room (y1.length + ([59] : List Int).length)) (tr2 := [([], []), ([], [18, 19, 18, 19]), ([16, 17, 18, 19], [16, 17, 20, 21, 20, 21])]) (H2 := [.box (encSt32 x0), .gone, .gone, .gone, .gone, .gone, .gone, .gone, .gone, vecL (encI .i32) 1 21 ([59] : List Int), vecL (encI .i32) 1 21 (y1 ++ ([59] : List Int)), .res]) (by kernel_rfl) hm (fun hc => N.app) (by kernel_rfl) (kD 2 ?_)
   obtain ⟨y2, hy7, h12⟩ := bindS h11
   refine RJ.callX (d := (some 36)) (f := 170) (args := [.vc 10, lsv encSt106 2 x0.NPre_]) (args0 := [.vc 0, lsv encSt106 2 x0.NPre_]) (v0 := .vc 1) (v := .vc 11) (tr2 := [([], []), ([], [18, 19, 18, 19]), ([16, 17, 18, 19], [16, 17, 20, 21, 20, 21]), ([], []), ([0, 1], []), ([20, 21], [20, 21, 22, 23, 22, 23])]) (H0 := [vecL (encI .i32) 1 21 (y1 ++ ([59] : List Int))]) (H0' := [.gone, vecL (encI .i32) 1 21 y2]) (H2 := [.box (encSt32 x0), .gone, .gone, .gone, .gone, .gone, .gone, .gone, .gone, vecL (encI .i32) 1 21 ([59] : List Int), .gone, vecL (encI .i32) 1 21 y2]) 11 [10] (by kernel_rfl) (by kernel_rfl) (by kernel_rfl) (by kernel_rfl) (by kernel_rfl) (by kernel_rfl) (by decide) (by kernel_rfl) (by kernel_rfl) (by kernel_rfl) (.cons (Le.refl _) (.cons (Le.refl _) .nil)) (pat_affix_ok_0o hy7) (by kernel_rfl) (by kernel_rfl) (by kernel_rfl) (kD 1 (kEN (kDr (kD 2 ?_))))
   obtain ⟨hm, h13⟩ := asrt h12
   refine RJ.rel (d := (some 39)) (ef := ⟨.vc 12, [11], [(11, .gone), (12, .vec (y2.length + y0.length) 1 21 (y2.flatMap (encI .i32) ++ y0.flatMap (encI .i32)))]⟩) (ef' := ⟨.vc 12, [11], [(11, .gone), (12, vecL (encI .i32) 1 21 (y2 ++ y0))]⟩) (c := room (y2.length + y0.length)) (tr2 := [([], []), ([], []), ([22, 23], [22, 23, 24, 25, 24, 25])]) (H2 := [.box (encSt32 x0), .gone, .gone, .gone, .gone, .gone, .gone, .gone, .gone, vecL (encI .i32) 1 21 ([59] : List Int), .gone, .gone, vecL (encI .i32) 1 21 (y2 ++ y0), .res]) (by kernel_rfl) hm (fun hc => N.app) (by kernel_rfl) (kD 2 ?_)
   obtain ⟨y4, hy8, h14⟩ := bindS h13
   exact RJ.callX (d := (some 42)) (f := 170) (args := [.vc 12, lsv encSt106 2 x0.NSuf_]) (args0 := [.vc 0, lsv encSt106 2 x0.NSuf_]) (v0 := .vc 1) (v := .vc 13) (tr2 := [([], []), ([], []), ([22, 23], [22, 23, 24, 25, 24, 25]), ([], []), ([0, 1], []), ([24, 25], [24, 25, 26, 27, 26, 27])]) (H0 := [vecL (encI .i32) 1 21 (y2 ++ y0)]) (H0' := [.gone, vecL (encI .i32) 1 21 y4]) (H2 := [.box (encSt32 x0), .gone, .gone, .gone, .gone, .gone, .gone, .gone, .gone, vecL (encI .i32) 1 21 ([59] : List Int), .gone, .gone, .gone, vecL (encI .i32) 1 21 y4]) 13 [12] (by kernel_rfl) (by kernel_rfl) (by kernel_rfl) (by kernel_rfl) (by kernel_rfl) (by kernel_rfl) (by decide) (by kernel_rfl) (by kernel_rfl) (by kernel_rfl) (.cons (Le.refl _) (.cons (Le.refl _) .nil)) (pat_affix_ok_0o hy8) (by kernel_rfl) (by kernel_rfl) (by kernel_rfl) (kD 1 (kE (kNW h14 hFH hFD [13])))
  ·exact kK (kNW h10 hFH hFD [8])
 ·exact kq (kX (by obtain rfl := oi h8; exact PJ.wk (Wk.freeze 0 (n := s0.length) (k := 1) (e := 21) (cs := s0.flatMap (encI .i32)) (by kernel_rfl)) (kZ hFn hFH hFD)))
def pat_Text (x0 : St32) : Option (List UInt8) :=
 (Option.bind (pat_pattern x0) fun y0 => (some (runesS y0)))
theorem pat_Text_ok {x0 : St32} {r : List UInt8} (h : pat_Text x0 = some r) : SC Tryz.prog 116 [.agg (encSt32 x0)] [] (.str r) [] := by
 refine kFn (fn := Tryz.f116) (fun F hFn hFH hFD => ?_)
 unfold pat_Text at h
 exact kq (kn 1 (kAb 4 h (fun _ => pat_pattern_ok) (fun y0 h0 => RJ.rel (d := (some 5)) (ef := ⟨.str ((y0.flatMap (encI .i32)).flatMap Go.Sy.runeB), [], []⟩) (ef' := ⟨.str (runesS y0), [], []⟩) (c := (y0.flatMap (encI .i32)).all isRuneS) (tr2 := []) (H2 := [.box (encSt32 x0)]) (by kernel_rfl) (allRune y0) (fun hc => N.toRStr) (by kernel_rfl) (kr 1 (kX (by obtain rfl := oi h0; exact kZ hFn hFH hFD))))))
structure St194 where
 a0_ : Int
 a1_ : Int
 a2_ : Int
 a3_ : Int
 a4_ : Int
 a5_ : Int
 a6_ : Int
 a7_ : Int
 a8_ : Int
 a9_ : Int
 a10_ : Int
 deriving Inhabited, DecidableEq
def encSt194 (x : St194) : List SV := [.int .i64 x.a0_, .int .i64 x.a1_, .int .i64 x.a2_, .int .i64 x.a3_, .int .i64 x.a4_, .int .i64 x.a5_, .int .i64 x.a6_, .int .i64 x.a7_, .int .i64 x.a8_, .int .i64 x.a9_, .int .i64 x.a10_]
theorem encSt194_len (x : St194) : (encSt194 x).length = 11 := rfl
def pat_numbers (x0 : St32) : Option (St194) :=
 (some (⟨x0.Hash_, x0.MinInt_, x0.MinFrac_, x0.MaxFrac_, x0.G1_, x0.G2_, x0.MinSig_, x0.MaxSig_, x0.Exp_, (IntKind.wrap .i64 x0.Pad_), x0.PadAt_⟩ : St194))
theorem pat_numbers_ok {x0 : St32} {r : St194} (h : pat_numbers x0 = some r) : SC Tryz.prog 146 [.agg (encSt32 x0)] [] (.agg (encSt194 r)) [] := by
 refine kFn (fn := Tryz.f146) (fun F hFn hFH hFD => ?_)
 unfold pat_numbers at h
 exact kq (kq (kX (by obtain rfl := oi h; exact kZ hFn hFH hFD)))
def api_Tok_ (x0 x1 : List St106) : Option (Bool) :=
 (bif (decide (¬ (x0.length : Int) = (x1.length : Int))) then (some false) else (Option.bind (loopN (fun (s0 : Int) => (bif (decide (s0 < (x0.length : Int))) then (bif inR s0 x0.length then (bif inR s0 x1.length then (bif (!((decide (((nth x0 s0).Kind_) = ((nth x1 s0).Kind_))) && ((decide (((nth x0 s0).R_) = ((nth x1 s0).R_))) && true))) then (some (.inr (.inr false))) else (some (.inl (IntKind.wrap .i64 (s0 + 1))))) else none) else none) else (some (.inr (.inl ()))))) big 0) (joinX fun (s1 : Unit) => (some true))))
theorem api_Tok__ok_o {x0 x1 : List St106} {r : Bool} (h : api_Tok_ x0 x1 = some r) : SC Tryz.prog 147 [lsv encSt106 2 x0, lsv encSt106 2 x1] [] (.bool r) [] := by
 refine kFn (fn := Tryz.f147) (fun F hFn hFH hFD => ?_)
 unfold api_Tok_ at h
 refine kq (kS (kq (kBT 10 h (fun h0 => ?_) (fun h1 => ?_))))
 ·exact kq (kX (PJ.passRet (by obtain rfl := oi h0; exact kRV [] (.inr rfl) hFn hFH hFD)))
 ·refine kKN (kcX h1 (fun (s1 : Unit) => ([(4, .bool false)], [])) (fun y0 hy0 h2 => ?_) (fun s1 h3 => ?_))
  ·refine kq (kb 0 (kl (fun (s0 : Int) => ([(0, lsv encSt106 2 x0), (1, lsv encSt106 2 x1), (4, .bool false), (12, iL (x0.length : Int)), (13, iL s0)], [])) hy0 [0, 1, 4, 12, 13] (fun s0 x79 hs0 => kq (kS (kBT 14 hs0 (fun h4 => ?_) (fun h5 => ?_))))))
   ·refine kKN (kS (kb 1 (kq (kS (kDr (kD 2 ?_))))))
    obtain ⟨hm, h6⟩ := asrt h4
    refine kJ 18 (tr2 := [([], []), ([], []), ([], [])]) encSt106_len hm (kD 3 ?_)
    obtain ⟨hm, h7⟩ := asrt h6
    exact kJ 22 (tr2 := [([], []), ([], []), ([], []), ([], []), ([], []), ([], []), ([], [])]) encSt106_len hm (kD 2 (kEN (kBT 24 h7 (fun h8 => kq (kXp (kLx h8 (fun h10 => PJ.blockRet (kCx h10 h2 (fun h11 => by obtain rfl := oi h11; exact kRV [] (.inr rfl) hFn hFH hFD)))))) (fun h9 => kKn (kM (kLo h9 [0, 1, 4, 12, 13]))))))
   ·exact kEp 0 (kLx h5 (fun h12 => PJ.blockOut (kXo h12 [4])))
  ·exact kq (kX (by obtain rfl := oi h3; exact kRV [] (.inr rfl) hFn hFH hFD))
def pat_Same (x0 x1 : St32) : Option (Bool) :=
 (Option.bind (Option.bind (pat_numbers x0) fun y0 => (Option.bind (pat_numbers x1) fun y1 => (bif ((decide (y0.a0_ = y1.a0_)) && ((decide (y0.a1_ = y1.a1_)) && ((decide (y0.a2_ = y1.a2_)) && ((decide (y0.a3_ = y1.a3_)) && ((decide (y0.a4_ = y1.a4_)) && ((decide (y0.a5_ = y1.a5_)) && ((decide (y0.a6_ = y1.a6_)) && ((decide (y0.a7_ = y1.a7_)) && ((decide (y0.a8_ = y1.a8_)) && ((decide (y0.a9_ = y1.a9_)) && ((decide (y0.a10_ = y1.a10_)) && true))))))))))) then (bif (x0.Neg_ == x1.Neg_) then (bif (x0.ExpPlus_ == x1.ExpPlus_) then (Option.bind (api_Tok_ x0.Pre_ x1.Pre_) fun y2 => (bif y2 then (Option.bind (api_Tok_ x0.Suf_ x1.Suf_) fun y3 => (bif y3 then (Option.bind (api_Tok_ x0.NPre_ x1.NPre_) fun y4 => (bif y4 then (Option.bind (api_Tok_ x0.NSuf_ x1.NSuf_) fun y5 => (some y5)) else (some false))) else (some false))) else (some false))) else (some false)) else (some false)) else (some false)))) fun (s0 : Bool) => (some s0))
theorem pat_Same_ok {x0 x1 : St32} {r : Bool} (h : pat_Same x0 x1 = some r) : SC Tryz.prog 117 [.agg (encSt32 x0), .agg (encSt32 x1)] [] (.bool r) [] := by
 refine kFn (fn := Tryz.f117) (fun F hFn hFH hFD => ?_)
 unfold pat_Same at h
 refine kq (kcN h (fun (s0 : Bool) => ([(4, .bool s0)], [])) (fun s0 hy0 => ?_) (fun s0 h0 => ?_))
 ·refine kDr (kD 1 ?_)
  obtain ⟨y0, hy1, h1⟩ := bindS hy0
  refine RJ.call0 (d := (some 6)) (f := 146) (args := [.agg (encSt32 x0)]) (v := .agg (encSt194 y0)) (tr2 := [([0, 1], []), ([], [4, 5])]) (by kernel_rfl) (by kernel_rfl) (.cons (Le.refl _) .nil) (pat_numbers_ok hy1) (by kernel_rfl) (kD 1 ?_)
  obtain ⟨y1, hy2, h2⟩ := bindS h1
  refine RJ.call0 (d := (some 8)) (f := 146) (args := [.agg (encSt32 x1)]) (v := .agg (encSt194 y1)) (tr2 := [([0, 1], []), ([], [4, 5]), ([2, 3], []), ([], [6, 7])]) (by kernel_rfl) (by kernel_rfl) (.cons (Le.refl _) .nil) (pat_numbers_ok hy2) (by kernel_rfl) (kD 2 (kB 10 h2 (fun h3 => ?_) (fun h4 => ?_)))
  ·refine kD 7 (kB 17 h3 (fun h5 => ?_) (fun h6 => ?_))
   ·refine kD 7 (kB 24 h5 (fun h7 => ?_) (fun h8 => ?_))
    ·refine kD 4 ?_
     obtain ⟨y2, hy3, h9⟩ := bindS h7
     refine RJ.call0 (d := (some 29)) (f := 147) (args := [lsv encSt106 2 x0.Pre_, lsv encSt106 2 x1.Pre_]) (v := .bool y2) (tr2 := [([0, 1], []), ([], [4, 5]), ([2, 3], []), ([], [6, 7]), ([], []), ([], []), ([], []), ([0, 1], []), ([], []), ([2, 3], []), ([], []), ([], []), ([], []), ([], []), ([0, 1], []), ([], []), ([2, 3], []), ([], []), ([], []), ([], []), ([], []), ([0, 1], []), ([], []), ([2, 3], []), ([], [8, 9])]) (by kernel_rfl) (by kernel_rfl) (.cons (Le.refl _) (.cons (Le.refl _) .nil)) (api_Tok__ok_o hy3) (by kernel_rfl) (kD 2 (kB 31 h9 (fun h10 => ?_) (fun h11 => ?_)))
     ·refine kD 4 ?_
      obtain ⟨y3, hy4, h12⟩ := bindS h10
      refine RJ.call0 (d := (some 36)) (f := 147) (args := [lsv encSt106 2 x0.Suf_, lsv encSt106 2 x1.Suf_]) (v := .bool y3) (tr2 := [([0, 1], []), ([], [4, 5]), ([2, 3], []), ([], [6, 7]), ([], []), ([], []), ([], []), ([0, 1], []), ([], []), ([2, 3], []), ([], []), ([], []), ([], []), ([], []), ([0, 1], []), ([], []), ([2, 3], []), ([], []), ([], []), ([], []), ([], []), ([0, 1], []), ([], []), ([2, 3], []), ([], [8, 9]), ([], []), ([], []), ([], []), ([0, 1], []), ([], []), ([2, 3], []), ([], [10, 11])]) (by kernel_rfl) (by kernel_rfl) (.cons (Le.refl _) (.cons (Le.refl _) .nil)) (api_Tok__ok_o hy4) (by kernel_rfl) (kD 2 (kB 38 h12 (fun h13 => ?_) (fun h14 => ?_)))
      ·refine kD 4 ?_
       obtain ⟨y4, hy5, h15⟩ := bindS h13
       refine RJ.call0 (d := (some 43)) (f := 147) (args := [lsv encSt106 2 x0.NPre_, lsv encSt106 2 x1.NPre_]) (v := .bool y4) (tr2 := [([0, 1], []), ([], [4, 5]), ([2, 3], []), ([], [6, 7]), ([], []), ([], []), ([], []), ([0, 1], []), ([], []), ([2, 3], []), ([], []), ([], []), ([], []), ([], []), ([0, 1], []), ([], []), ([2, 3], []), ([], []), ([], []), ([], []), ([], []), ([0, 1], []), ([], []), ([2, 3], []), ([], [8, 9]), ([], []), ([], []), ([], []), ([0, 1], []), ([], []), ([2, 3], []), ([], [10, 11]), ([], []), ([], []), ([], []), ([0, 1], []), ([], []), ([2, 3], []), ([], [12, 13])]) (by kernel_rfl) (by kernel_rfl) (.cons (Le.refl _) (.cons (Le.refl _) .nil)) (api_Tok__ok_o hy5) (by kernel_rfl) (kD 2 (kB 45 h15 (fun h16 => ?_) (fun h17 => ?_)))
       ·refine kD 4 ?_
        obtain ⟨y5, hy6, h18⟩ := bindS h16
        exact RJ.call0 (d := (some 50)) (f := 147) (args := [lsv encSt106 2 x0.NSuf_, lsv encSt106 2 x1.NSuf_]) (v := .bool y5) (tr2 := [([0, 1], []), ([], [4, 5]), ([2, 3], []), ([], [6, 7]), ([], []), ([], []), ([], []), ([0, 1], []), ([], []), ([2, 3], []), ([], []), ([], []), ([], []), ([], []), ([0, 1], []), ([], []), ([2, 3], []), ([], []), ([], []), ([], []), ([], []), ([0, 1], []), ([], []), ([2, 3], []), ([], [8, 9]), ([], []), ([], []), ([], []), ([0, 1], []), ([], []), ([2, 3], []), ([], [10, 11]), ([], []), ([], []), ([], []), ([0, 1], []), ([], []), ([2, 3], []), ([], [12, 13]), ([], []), ([], []), ([], []), ([0, 1], []), ([], []), ([2, 3], []), ([], [14, 15])]) (by kernel_rfl) (by kernel_rfl) (.cons (Le.refl _) (.cons (Le.refl _) .nil)) (api_Tok__ok_o hy6) (by kernel_rfl) (kD 2 (kE (kNW h18 hFH hFD [])))
       ·exact kD 7 (kE (kNW h17 hFH hFD []))
      ·exact kD 14 (kE (kNW h14 hFH hFD []))
     ·exact kD 21 (kE (kNW h11 hFH hFD []))
    ·exact kD 28 (kE (kNW h8 hFH hFD []))
   ·exact kD 35 (kE (kNW h6 hFH hFD []))
  ·exact kD 42 (kE (kNW h4 hFH hFD []))
 ·exact kX (by obtain rfl := oi h0; exact kZ hFn hFH hFD)
def pat_Right (x0 : St32) : Option (Bool) :=
 (Option.bind (pat_Text x0) fun y1 => (Option.bind (pat_Parse y1) fun y0 => (Option.bind (bif (decide (y0.2.2 = 0)) then (Option.bind (pat_Same x0 y0.1) fun y2 => (some y2)) else (some false)) fun (s0 : Bool) => (some s0))))
theorem pat_Right_ok {x0 : St32} {r : Bool} (h : pat_Right x0 = some r) : SC Tryz.prog 77 [.agg (encSt32 x0)] [] (.bool r) [] := by
 refine kFn (fn := Tryz.f77) (fun F hFn hFH hFD => ?_)
 unfold pat_Right at h
 exact kq (kn 1 (kAb 8 h (fun _ => pat_Text_ok) (fun y1 h0 => kAb 9 h0 (fun _ => pat_Parse_ok) (fun y0 h1 => kr 8 (kcN h1 (fun (s0 : Bool) => ([(2, .bool s0)], [])) (fun s0 hy0 => km 3 (kB 15 hy0 (fun h3 => kc 2 (kAb 18 h3 (fun _ => pat_Same_ok) (fun y2 h5 => ke 2 (kNW h5 hFH hFD [])))) (fun h4 => ke 5 (kNW h4 hFH hFD [])))) (fun s0 h2 => kX (by obtain rfl := oi h2; exact kZ hFn hFH hFD)))))))
def loc_read (x0 : List UInt8) : Option (St32 × Bool) :=
 (Option.bind (pat_Parse x0) fun y0 => (Option.bind (bif (decide (y0.2.2 = 0)) then (Option.bind (pat_Right y0.1) fun y1 => (some y1)) else (some false)) fun (s0 : Bool) => (some (y0.1, s0))))
theorem loc_read_ok {x0 : List UInt8} {r : St32 × Bool} (h : loc_read x0 = some r) : SC Tryz.prog 37 [.str x0] [] (.tup [.agg (encSt32 r.1), .bool r.2]) [] := by
 refine kFn (fn := Tryz.f37) (fun F hFn hFH hFD => ?_)
 unfold loc_read at h
 refine kq (kn 1 (kAb 9 h (fun _ => pat_Parse_ok) (fun y0 h0 => kr 8 (kcN h0 (fun (s0 : Bool) => ([(2, .ptr 0 0), (3, .bool s0)], [.box (encSt32 y0.1)])) (fun s0 hy0 => ?_) (fun s0 h1 => ?_)))))
 ·refine kDr (kD 4 (kB 16 hy0 (fun h2 => ?_) (fun h3 => ?_)))
  ·refine kD 1 ?_
   obtain ⟨y1, hy1, h4⟩ := bindS h2
   exact RJ.call0 (d := (some 18)) (f := 77) (args := [.agg (encSt32 y0.1)]) (v := .bool y1) (tr2 := [([2, 3], []), ([], []), ([], []), ([], []), ([2, 3], []), ([], [4, 5])]) (by kernel_rfl) (by kernel_rfl) (.cons (Le.refl _) .nil) (pat_Right_ok hy1) (by kernel_rfl) (kD 3 (kE (kNW h4 hFH hFD [0])))
  ·exact kD 5 (kE (kNW h3 hFH hFD [0]))
 ·exact kX (by obtain rfl := oi h1; exact kZ hFn hFH hFD)
def loc_numbered (x0 : St32) (x1 : Int) : Option (Bool) :=
 (bif (decide (x1 = 2)) then (Option.bind (bif (decide (x0.Exp_ > 0)) then (bif (decide (x0.Hash_ = 0)) then (bif (decide (x0.G1_ = 0)) then (some (decide (x0.MinInt_ = 1))) else (some false)) else (some false)) else (some false)) fun (s0 : Bool) => (some s0)) else (Option.bind (bif (decide (x0.MinSig_ > 0)) then (bif (decide (x1 = 0)) then (some true) else (some (decide (x1 = 1)))) else (some false)) fun (s1 : Bool) => (Option.bind (bif (decide (x0.Exp_ = 0)) then (bif (decide (x0.MinInt_ > 0)) then (some true) else (some s1)) else (some false)) fun (s2 : Bool) => (some s2))))
theorem loc_numbered_ok {x0 : St32} {x1 : Int} {r : Bool} (h : loc_numbered x0 x1 = some r) : SC Tryz.prog 38 [.agg (encSt32 x0), iL x1] [] (.bool r) [] := by
 refine kFn (fn := Tryz.f38) (fun F hFn hFH hFD => ?_)
 unfold loc_numbered at h
 exact kq (kS (kq (kBT 7 h (fun h0 => kcN h0 (fun (s0 : Bool) => ([(1, iL x1), (2, .ptr 0 0), (4, .bool s0)], [.box (encSt32 x0)])) (fun s0 hy0 => km 4 (kB 11 hy0 (fun h3 => kc 5 (kB 16 h3 (fun h5 => kc 5 (kB 21 h5 (fun h7 => ke 5 (kNo h7 [1, 2, 4])) (fun h8 => ke 5 (kNo h8 [1, 2, 4])))) (fun h6 => ke 10 (kNo h6 [1, 2, 4])))) (fun h4 => ke 15 (kNo h4 [1, 2, 4])))) (fun s0 h2 => kX (PJ.passRet (by obtain rfl := oi h2; exact kZ hFn hFH hFD)))) (fun h1 => kKN (kcN h1 (fun (s1 : Bool) => ([(2, .ptr 0 0), (4, .bool false), (5, .bool s1)], [.box (encSt32 x0)])) (fun s1 hy1 => km 4 (kB 29 hy1 (fun h10 => kc 3 (kB 32 h10 (fun h12 => ke 5 (kNo h12 [2, 4, 5])) (fun h13 => ke 5 (kNo h13 [2, 4, 5])))) (fun h11 => ke 8 (kNo h11 [2, 4, 5])))) (fun s1 h9 => kcN h9 (fun (s2 : Bool) => ([(4, .bool s2)], [])) (fun s2 hy2 => km 4 (kB 40 hy2 (fun h15 => kc 4 (kB 44 h15 (fun h17 => ke 4 (kNW h17 hFH hFD [])) (fun h18 => ke 4 (kNW h18 hFH hFD [])))) (fun h16 => ke 8 (kNW h16 hFH hFD [])))) (fun s2 h14 => kX (by obtain rfl := oi h14; exact kZ hFn hFH hFD))))))))
def affix_Count (x0 : List St106) (x1 : Int) : Option (Int) :=
 (Option.bind (loopN (fun (s0 : Int × Int) => (bif (decide (s0.2 < (x0.length : Int))) then (Option.bind (bif inR s0.2 x0.length then (bif (decide (((nth x0 s0.2).Kind_) = x1)) then (some (IntKind.wrap .i64 (s0.1 + 1))) else (some s0.1)) else none) fun (s1 : Int) => (some (.inl (s1, (IntKind.wrap .i64 (s0.2 + 1)))))) else (some (.inr s0.1)))) big (0, 0)) fun (s2 : Int) => (some s2))
theorem affix_Count_ok {x0 : List St106} {x1 r : Int} (h : affix_Count x0 x1 = some r) : SC Tryz.prog 79 [lsv encSt106 2 x0, iL x1] [] (iL r) [] := by
 refine kFn (fn := Tryz.f79) (fun F hFn hFH hFD => ?_)
 unfold affix_Count at h
 exact kq (kq (kcN h (fun (s2 : Int) => ([(4, iL 0), (5, iL s2)], [])) (fun s2 hy0 => kq (kb 0 (kl (fun (s0 : Int × Int) => ([(1, iL x1), (4, iL 0), (5, iL s0.1), (8, lsv encSt106 2 x0), (9, iL (x0.length : Int)), (10, iL s0.2)], [])) hy0 [1, 4, 5, 8, 9, 10] (fun s0 x101 hs0 => kq (kS (kBT 11 hs0 (fun h1 => kKN (kcN h1 (fun (s1 : Int) => ([(1, iL x1), (4, iL 0), (5, iL s1), (8, lsv encSt106 2 x0), (9, iL (x0.length : Int)), (10, iL s0.2)], [])) (fun s1 hy1 => kb 1 (kSR (kIb 12 encSt106_len hy1 (fun h4 => kr 3 (kq (kBT 17 h4 (fun h5 => kM (PJ.blockNormal (kNW h5 hFH hFD []))) (fun h6 => kKb (kNW h6 hFH hFD [])))))))) (fun s1 h3 => kM (kLo h3 [1, 4, 5, 8, 9, 10])))) (fun h2 => kEp 0 (kLx h2 (fun h7 => PJ.blockOut (kNo h7 [4, 5])))))))))) (fun s2 h0 => kq (kX (by obtain rfl := oi h0; exact kZ hFn hFH hFD)))))
def loc_pieced_1_s0 (x0 : Int) (x1 x2 : List St106) : Option (Int) :=
 (Option.bind (affix_Count x1 x0) fun y0 => (Option.bind (affix_Count x2 x0) fun y1 => (some (IntKind.wrap .i64 (y0 + y1)))))
theorem loc_pieced_1_s0_ok {x0 : Int} {x1 x2 : List St106} {r : Int} (h : loc_pieced_1_s0 x0 x1 x2 = some r) : SC Tryz.prog 78 [iL x0, .ptr 0 0, .ptr 1 0] [.box [lsv encSt106 2 x1], .box [lsv encSt106 2 x2]] (iL r) [.box [lsv encSt106 2 x1], .box [lsv encSt106 2 x2]] := by
 refine kFn (fn := Tryz.f78) (fun F hFn hFH hFD => ?_)
 unfold loc_pieced_1_s0 at h
 refine kq (kS (kDr (kD 2 ?_)))
 obtain ⟨y0, hy0, h0⟩ := bindS h
 refine RJ.call0 (d := (some 7)) (f := 79) (args := [lsv encSt106 2 x1, iL x0]) (v := iL y0) (tr2 := [([0, 1], []), ([], []), ([], [4, 5])]) (by kernel_rfl) (by kernel_rfl) (.cons (Le.refl _) (.cons (Le.refl _) .nil)) (affix_Count_ok hy0) (by kernel_rfl) (kD 2 ?_)
 obtain ⟨y1, hy1, h1⟩ := bindS h0
 exact RJ.call0 (d := (some 10)) (f := 79) (args := [lsv encSt106 2 x2, iL x0]) (v := iL y1) (tr2 := [([0, 1], []), ([], []), ([], [4, 5]), ([2, 3], []), ([], []), ([], [6, 7])]) (by kernel_rfl) (by kernel_rfl) (.cons (Le.refl _) (.cons (Le.refl _) .nil)) (affix_Count_ok hy1) (by kernel_rfl) (kD 2 (kEN (kX (by obtain rfl := oi h1; exact kRV [0, 1] (.inr rfl) hFn hFH hFD))))
def loc_pieced (x0 x1 : List St106) (x2 x3 : Int) : Option (Bool) :=
 (Option.bind (bif (decide (x2 = 1)) then (some (1, 0)) else (bif (decide (x2 = 3)) then (some (0, 1)) else (some (0, 0)))) fun (s0 : Int × Int) => (Option.bind (Option.bind (loc_pieced_1_s0 3 x0 x1) fun y0 => (bif (decide (y0 = s0.1)) then (Option.bind (loc_pieced_1_s0 4 x0 x1) fun y1 => (bif (decide (y1 = s0.2)) then (Option.bind (loc_pieced_1_s0 2 x0 x1) fun y2 => (bif (decide (y2 = 0)) then (Option.bind (loc_pieced_1_s0 1 x0 x1) fun y3 => (some (decide (y3 ≤ x3)))) else (some false))) else (some false))) else (some false))) fun (s1 : Bool) => (some s1)))
theorem loc_pieced_ok {x0 x1 : List St106} {x2 x3 : Int} {r : Bool} (h : loc_pieced x0 x1 x2 x3 = some r) : SC Tryz.prog 39 [lsv encSt106 2 x0, lsv encSt106 2 x1, iL x2, iL x3] [] (.bool r) [] := by
 refine kFn (fn := Tryz.f39) (fun F hFn hFH hFD => ?_)
 unfold loc_pieced at h
 refine kq (kq (kq (kcN h (fun (s0 : Int × Int) => ([(3, iL x3), (8, .bool false), (9, .fn (.func 78) [] [.ptr 0 0, .ptr 1 0]), (10, iL s0.1), (11, iL s0.2)], [.box [lsv encSt106 2 x0], .box [lsv encSt106 2 x1]])) (fun s0 hy0 => ?_) (fun s0 h0 => ?_))))
 ·exact kq (kb 0 (kq (kBT 14 hy0 (fun h1 => kM (PJ.blockNormal (kNo h1 [3, 8, 9, 10, 11]))) (fun h2 => kq (kBT 16 h2 (fun h3 => kM (PJ.blockNormal (kNo h3 [3, 8, 9, 10, 11]))) (fun h4 => kKb (kNo h4 [3, 8, 9, 10, 11])))))))
 ·refine kcN h0 (fun (s1 : Bool) => ([(8, .bool s1)], [])) (fun s1 hy1 => ?_) (fun s1 h5 => ?_)
  ·refine km 1 ?_
   obtain ⟨y0, hy2, h6⟩ := bindS hy1
   refine kCg (some 19) [0, 1] (loc_pieced_1_s0_ok hy2) (kc 3 (kB 22 h6 (fun h7 => ?_) (fun h8 => ?_)))
   ·refine kc 1 ?_
    obtain ⟨y1, hy3, h9⟩ := bindS h7
    refine kCg (some 24) [0, 1] (loc_pieced_1_s0_ok hy3) (kc 4 (kB 28 h9 (fun h10 => ?_) (fun h11 => ?_)))
    ·refine kc 1 ?_
     obtain ⟨y2, hy4, h12⟩ := bindS h10
     refine kCg (some 30) [0, 1] (loc_pieced_1_s0_ok hy4) (kc 3 (kB 33 h12 (fun h13 => ?_) (fun h14 => ?_)))
     ·refine kc 1 ?_
      obtain ⟨y3, hy5, h15⟩ := bindS h13
      exact kCg (some 35) [0, 1] (loc_pieced_1_s0_ok hy5) (ke 4 (kNW h15 hFH hFD []))
     ·exact ke 6 (kNW h14 hFH hFD [])
    ·exact ke 11 (kNW h11 hFH hFD [])
   ·exact ke 17 (kNW h8 hFH hFD [])
  ·exact kX (by obtain rfl := oi h5; exact kZ hFn hFH hFD)
structure St63 where
 Pre_ : List Int
 Suf_ : List Int
 deriving Inhabited, DecidableEq
def encSt63 (x : St63) : List SV := [lsv (encI .i32) 1 x.Pre_, lsv (encI .i32) 1 x.Suf_]
theorem encSt63_len (x : St63) : (encSt63 x).length = 2 := rfl
structure St124 where
 a0_ : St63
 a1_ : St63
 a2_ : St63
 deriving Inhabited, DecidableEq
def encSt124 (x : St124) : List SV := [lsv (encI .i32) 1 x.a0_.Pre_, lsv (encI .i32) 1 x.a0_.Suf_, lsv (encI .i32) 1 x.a1_.Pre_, lsv (encI .i32) 1 x.a1_.Suf_, lsv (encI .i32) 1 x.a2_.Pre_, lsv (encI .i32) 1 x.a2_.Suf_]
theorem encSt124_len (x : St124) : (encSt124 x).length = 6 := rfl
def api_Tok__191 (x0 : List St106) : Option (List St106) :=
 (bif (Nat.beq x0.length 0) then agree (some ([] : List St106)) (bif room x0.length then (some x0) else none) else (bif room x0.length then (some x0) else none))
theorem api_Tok__191_ok_o {x0 r : List St106} (h : api_Tok__191 x0 = some r) : SC Tryz.prog 191 [lsv encSt106 2 x0] [] (.vc 0) [vecL encSt106 2 107 r] := by
 refine kFn (fn := Tryz.f191) (fun F hFn hFH hFD => ?_)
 unfold api_Tok__191 at h
 refine kq (kS (kn 1 (RJ.isNil (d := 4) (n := x0.length) (eq := true) (by kernel_rfl) (fun b hb0 => ?_))))
 cases b
 ·have h0 := agreeF h
  refine kEN (kF (kKN (kn 2 ?_)))
  obtain ⟨hm, h1⟩ := asrt h0
  exact RJ.rel (d := (some 7)) (ef' := ⟨.vc 0, [], [(0, .vec x0.length 2 107 (x0.flatMap encSt106))]⟩) (tr2 := []) (H2 := [vecL encSt106 2 107 x0]) (by kernel_rfl) hm (fun hc => rfl) (by kernel_rfl) (kr 1 (kX (by obtain rfl := oi h1; exact kRV [0] (.inr rfl) hFn hFH hFD)))
 ·have h2 := agreeT (by rw [hb0 rfl]; rfl) h
  exact kEN (kT (kq (kX (PJ.passRet (by obtain rfl := oi h2; exact PJ.wk (Wk.viv 2 2 107 (by kernel_rfl)) (kRV [0] (.inr rfl) hFn hFH hFD))))))
def affix_led (x0 x1 : List St106) : Option (List St106) :=
 (Option.bind (api_Tok__191 x1) fun y0 => (bif room (y0.length + x0.length) then (some (y0 ++ x0)) else none))
theorem affix_led_ok {x0 x1 r : List St106} (h : affix_led x0 x1 = some r) : SC Tryz.prog 171 [lsv encSt106 2 x0, lsv encSt106 2 x1] [] (lsv encSt106 2 r) [] := by
 refine kFn (fn := Tryz.f171) (fun F hFn hFH hFD => ?_)
 unfold affix_led at h
 refine kq (kn 1 ?_)
 obtain ⟨y0, hy0, h0⟩ := bindS h
 exact kCg (some 6) [] (api_Tok__191_ok_o hy0) (kc 1 (kAp 8 0 1 2 107 [0] encSt106 h0 (fun h1 => kr 1 (kX (by obtain rfl := oi h1; exact PJ.wk (Wk.freeze 1 (n := (y0 ++ x0).length) (k := 2) (e := 107) (cs := (y0 ++ x0).flatMap encSt106) (by kernel_rfl)) (kZ hFn hFH hFD))))))
def affix_turned (x0 : List St106) : Option (List St106) :=
 (Option.bind (api_Tok__191 x0) fun y0 => (Option.bind (loopN (fun (s0 : Int × (List St106)) => (bif (decide (s0.1 < (y0.length : Int))) then (Option.bind (bif inR s0.1 s0.2.length then (bif inR s0.1 s0.2.length then (bif (decide (((nth s0.2 s0.1).Kind_) = 1)) then (bif inR s0.1 s0.2.length then (bif inR s0.1 s0.2.length then (some (setAt s0.2 s0.1 (⟨2, 0⟩ : St106))) else none) else none) else (some s0.2)) else none) else none) fun (s2 : (List St106)) => (some (.inl ((IntKind.wrap .i64 (s0.1 + 1)), s2)))) else (some (.inr s0.2)))) big (0, y0)) fun (s1 : (List St106)) => (some s1)))
theorem affix_turned_ok {x0 r : List St106} (h : affix_turned x0 = some r) : SC Tryz.prog 172 [lsv encSt106 2 x0] [] (lsv encSt106 2 r) [] := by
 refine kFn (fn := Tryz.f172) (fun F hFn hFH hFD => ?_)
 unfold affix_turned at h
 refine kq (kn 1 ?_)
 obtain ⟨y0, hy0, h0⟩ := bindS h
 refine kCg (some 6) [] (api_Tok__191_ok_o hy0) (kr 1 (kcN h0 (fun (s1 : (List St106)) => ([(0, .vc 0), (2, .nl)], [vecL encSt106 2 107 s1])) (fun s1 hy1 => ?_) (fun s1 h1 => ?_)))
 ·refine kq (kb 0 (kl (fun (s0 : Int × (List St106)) => ([(0, .vc 0), (2, .nl), (7, .vc 0), (8, iL (y0.length : Int)), (9, iL s0.1)], [vecL encSt106 2 107 s0.2])) hy1 [0, 2, 7, 8, 9] (fun s0 x134 hs0 => kq (kS (kBT 10 hs0 (fun h2 => ?_) (fun h3 => ?_))))))
  ·refine kKN (kcN h2 (fun (s2 : (List St106)) => ([(0, .vc 0), (2, .nl), (7, .vc 0), (8, iL (y0.length : Int)), (9, iL s0.1)], [vecL encSt106 2 107 s2])) (fun s2 hy2 => ?_) (fun s2 h4 => ?_))
   ·refine kb 1 (kn 1 ?_)
    obtain ⟨hm, h5⟩ := asrt hy2
    refine kQ 12 (.ptr 0 ((s0.1 : Int).toNat * 2)) [0] (tr2 := []) hm ?_
    obtain ⟨hm, h6⟩ := asrt h5
    refine RJ.loadS (d := (some 13)) (i := 0) (enc := encSt106) (k := 2) (xs := s0.2) (j := s0.1) (tr2 := []) (by kernel_rfl) encSt106_len hm (kr 3 (kq (kBT 16 h6 (fun h7 => ?_) (fun h8 => ?_))))
    ·refine km 3 ?_
     obtain ⟨hm, h9⟩ := asrt h7
     refine kQ 20 (.ptr 0 ((s0.1 : Int).toNat * 2)) [0] (tr2 := []) hm ?_
     obtain ⟨hm, h10⟩ := asrt h9
     exact RJ.rel (d := none) (ef := ⟨.undef, [0], [(0, .vec (s0.2).length 2 107 (splice ((s0.2).flatMap encSt106) ((s0.1 : Int).toNat * 2) (encSt106 (⟨2, 0⟩ : St106))))]⟩) (ef' := ⟨.undef, [0], [(0, vecL encSt106 2 107 (setAt s0.2 s0.1 (⟨2, 0⟩ : St106)))]⟩) (c := Nat.ble (((s0.1 : Int).toNat * 2) + (encSt106 (⟨2, 0⟩ : St106)).length) (s0.2.flatMap encSt106).length) (tr2 := []) (H2 := [vecL encSt106 2 107 (setAt s0.2 s0.1 (⟨2, 0⟩ : St106)), .box [iL ((nth s0.2 s0.1).Kind_), iM ((nth s0.2 s0.1).R_)]]) (by kernel_rfl) (storev_ok encSt106_len hm) (fun hc => N.store encSt106_len hm) (by kernel_rfl) (kE (PJ.blockNormal (kNW h10 hFH hFD [0])))
    ·exact kKb (kNW h8 hFH hFD [0])
   ·exact kM (kLo h4 [0, 2, 7, 8, 9])
  ·exact kEp 0 (kLx h3 (fun h11 => PJ.blockOut (kNo h11 [0, 2])))
 ·exact kq (kX (by obtain rfl := oi h1; exact PJ.wk (Wk.freeze 0 (n := s1.length) (k := 2) (e := 107) (cs := s1.flatMap encSt106) (by kernel_rfl)) (kZ hFn hFH hFD)))
def affix_Signed (x0 : St32) (x1 : Int) : Option ((List St106) × (List St106)) :=
 (bif (decide (x1 = 1)) then (bif x0.Neg_ then (Option.bind (affix_led x0.NPre_ ([] : List St106)) fun y0 => (Option.bind (affix_led x0.NSuf_ ([] : List St106)) fun y1 => (some (y0, y1)))) else (Option.bind (affix_led x0.Pre_ ([(⟨1, 0⟩ : St106)] : List St106)) fun y2 => (Option.bind (affix_led x0.Suf_ ([] : List St106)) fun y3 => (some (y2, y3))))) else (bif (decide (x1 = 2)) then (Option.bind (Option.bind (bif x0.Neg_ then (Option.bind (affix_Count x0.NPre_ 1) fun y4 => (Option.bind (affix_Count x0.NSuf_ 1) fun y5 => (some ((decide ((IntKind.wrap .i64 (y4 + y5)) > 0)))))) else (some false)) fun (s0 : Bool) => (bif s0 then (Option.bind (affix_turned x0.NPre_) fun y6 => (Option.bind (affix_turned x0.NSuf_) fun y7 => (some (.inr (y6, y7))))) else (some (.inl ())))) (joinX fun (s1 : Unit) => (Option.bind (affix_led x0.Pre_ ([(⟨2, 0⟩ : St106)] : List St106)) fun y8 => (Option.bind (affix_led x0.Suf_ ([] : List St106)) fun y9 => (some (y8, y9)))))) else (Option.bind (affix_led x0.Pre_ ([] : List St106)) fun y10 => (Option.bind (affix_led x0.Suf_ ([] : List St106)) fun y11 => (some (y10, y11))))))
theorem affix_Signed_ok {x0 : St32} {x1 : Int} {r : (List St106) × (List St106)} (h : affix_Signed x0 x1 = some r) : SC Tryz.prog 148 [.agg (encSt32 x0), iL x1] [] (.tup [lsv encSt106 2 r.1, lsv encSt106 2 r.2]) [] := by
 refine kFn (fn := Tryz.f148) (fun F hFn hFH hFD => ?_)
 unfold affix_Signed at h
 refine kq (kS (kq (kb 0 (kq (kBT 7 h (fun h0 => ?_) (fun h1 => ?_))))))
 ·refine kS (kq (kBT 10 h0 (fun h2 => ?_) (fun h3 => ?_)))
  ·refine kS (kDr (kD 2 ?_))
   obtain ⟨y0, hy0, h4⟩ := bindS h2
   refine RJ.call0 (d := (some 13)) (f := 171) (args := [lsv encSt106 2 x0.NPre_, .nl]) (v := lsv encSt106 2 y0) (tr2 := [([], []), ([0, 1], []), ([], [2, 3])]) (by kernel_rfl) (by kernel_rfl) (.cons (Le.refl _) (.cons (Le.nl _) .nil)) (affix_led_ok hy0) (by kernel_rfl) (kD 2 ?_)
   obtain ⟨y1, hy1, h5⟩ := bindS h4
   exact RJ.call0 (d := (some 16)) (f := 171) (args := [lsv encSt106 2 x0.NSuf_, .nl]) (v := lsv encSt106 2 y1) (tr2 := [([], []), ([0, 1], []), ([], [2, 3]), ([], []), ([0, 1], []), ([], [4, 5])]) (by kernel_rfl) (by kernel_rfl) (.cons (Le.refl _) (.cons (Le.nl _) .nil)) (affix_led_ok hy1) (by kernel_rfl) (kD 2 (kEN (kX (PJ.passRet (PJ.blockRet (PJ.passRet (by obtain rfl := oi h5; exact kZ hFn hFH hFD)))))))
  ·refine kKN (kS (kDr (kD 3 (RJ.relZ (d := (some 20)) (ef := ⟨.lst ([(⟨1, 0⟩ : St106)] : List St106).length 2 (([(⟨1, 0⟩ : St106)] : List St106).flatMap encSt106), [], [(1, .vec ([(⟨1, 0⟩ : St106)] : List St106).length 2 107 (([(⟨1, 0⟩ : St106)] : List St106).flatMap encSt106)), (1, .gone)]⟩) (ef' := ⟨.lst ([(⟨1, 0⟩ : St106)] : List St106).length 2 (([(⟨1, 0⟩ : St106)] : List St106).flatMap encSt106), [], [(1, .vec ([(⟨1, 0⟩ : St106)] : List St106).length 2 107 (([(⟨1, 0⟩ : St106)] : List St106).flatMap encSt106)), (1, .gone)]⟩) (c := true) (tr2 := [([], []), ([0, 1], []), ([], []), ([], [2, 3, 2, 3, 2, 3])]) (H2 := [.box (encSt32 x0), .gone, .res, .res]) (by kernel_rfl) rfl (fun hc => rfl) (by kernel_rfl) ?_))))
   obtain ⟨y2, hy2, h6⟩ := bindS h3
   refine RJ.call0 (d := (some 21)) (f := 171) (args := [lsv encSt106 2 x0.Pre_, lsv encSt106 2 ([(⟨1, 0⟩ : St106)] : List St106)]) (v := lsv encSt106 2 y2) (tr2 := [([], []), ([0, 1], []), ([], []), ([], [2, 3, 2, 3, 2, 3]), ([], [4, 5])]) (by kernel_rfl) (by kernel_rfl) (.cons (Le.refl _) (.cons (Le.refl _) .nil)) (affix_led_ok hy2) (by kernel_rfl) (kD 2 ?_)
   obtain ⟨y3, hy3, h7⟩ := bindS h6
   exact RJ.call0 (d := (some 24)) (f := 171) (args := [lsv encSt106 2 x0.Suf_, .nl]) (v := lsv encSt106 2 y3) (tr2 := [([], []), ([0, 1], []), ([], []), ([], [2, 3, 2, 3, 2, 3]), ([], [4, 5]), ([], []), ([0, 1], []), ([], [6, 7])]) (by kernel_rfl) (by kernel_rfl) (.cons (Le.refl _) (.cons (Le.nl _) .nil)) (affix_led_ok hy3) (by kernel_rfl) (kD 2 (kEN (kXp (by obtain rfl := oi h7; exact kZ hFn hFH hFD))))
 ·refine kq (kBT 25 h1 (fun h8 => ?_) (fun h9 => ?_))
  ·refine kcX h8 (fun (s1 : Unit) => ([(2, .ptr 0 0), (4, .nl), (5, .nl)], [.box (encSt32 x0)])) (fun y12 hy4 h10 => ?_) (fun s1 h11 => ?_)
   ·refine kcN hy4 (fun (s0 : Bool) => ([(2, .ptr 0 0), (4, .nl), (5, .nl), (38, .bool s0)], [.box (encSt32 x0)])) (fun s0 hy5 => ?_) (fun s0 h12 => ?_)
    ·refine kDr (kD 3 (kB 29 hy5 (fun h13 => ?_) (fun h14 => ?_)))
     ·refine kD 2 ?_
      obtain ⟨y4, hy6, h15⟩ := bindS h13
      refine RJ.call0 (d := (some 32)) (f := 79) (args := [lsv encSt106 2 x0.NPre_, iL 1]) (v := iL y4) (tr2 := [([], []), ([0, 1], []), ([], []), ([], []), ([0, 1], []), ([], [2, 3])]) (by kernel_rfl) (by kernel_rfl) (.cons (Le.refl _) (.cons (Le.refl _) .nil)) (affix_Count_ok hy6) (by kernel_rfl) (kD 2 ?_)
      obtain ⟨y5, hy7, h16⟩ := bindS h15
      exact RJ.call0 (d := (some 35)) (f := 79) (args := [lsv encSt106 2 x0.NSuf_, iL 1]) (v := iL y5) (tr2 := [([], []), ([0, 1], []), ([], []), ([], []), ([0, 1], []), ([], [2, 3]), ([], []), ([0, 1], []), ([], [4, 5])]) (by kernel_rfl) (by kernel_rfl) (.cons (Le.refl _) (.cons (Le.refl _) .nil)) (affix_Count_ok hy7) (by kernel_rfl) (kD 3 (kE (kNW h16 hFH hFD [0])))
     ·exact kD 9 (kE (kNW h14 hFH hFD [0]))
    ·refine kBT 38 h12 (fun h17 => ?_) (fun h18 => ?_)
     ·refine kS (kDr (kD 2 ?_))
      obtain ⟨y6, hy8, h19⟩ := bindS h17
      refine RJ.call0 (d := (some 41)) (f := 172) (args := [lsv encSt106 2 x0.NPre_]) (v := lsv encSt106 2 y6) (tr2 := [([], []), ([0, 1], []), ([], [2, 3])]) (by kernel_rfl) (by kernel_rfl) (.cons (Le.refl _) .nil) (affix_turned_ok hy8) (by kernel_rfl) (kD 2 ?_)
      obtain ⟨y7, hy9, h20⟩ := bindS h19
      exact RJ.call0 (d := (some 44)) (f := 172) (args := [lsv encSt106 2 x0.NSuf_]) (v := lsv encSt106 2 y7) (tr2 := [([], []), ([0, 1], []), ([], [2, 3]), ([], []), ([0, 1], []), ([], [4, 5])]) (by kernel_rfl) (by kernel_rfl) (.cons (Le.refl _) .nil) (affix_turned_ok hy9) (by kernel_rfl) (kD 2 (kEN (kX (kCx h20 h10 (fun h21 => PJ.blockRet (PJ.passRet (by obtain rfl := oi h21; exact kZ hFn hFH hFD)))))))
     ·exact kK (kXo h18 [2, 4, 5])
   ·refine kS (kDr (kD 3 (RJ.relZ (d := (some 48)) (ef := ⟨.lst ([(⟨2, 0⟩ : St106)] : List St106).length 2 (([(⟨2, 0⟩ : St106)] : List St106).flatMap encSt106), [], [(1, .vec ([(⟨2, 0⟩ : St106)] : List St106).length 2 107 (([(⟨2, 0⟩ : St106)] : List St106).flatMap encSt106)), (1, .gone)]⟩) (ef' := ⟨.lst ([(⟨2, 0⟩ : St106)] : List St106).length 2 (([(⟨2, 0⟩ : St106)] : List St106).flatMap encSt106), [], [(1, .vec ([(⟨2, 0⟩ : St106)] : List St106).length 2 107 (([(⟨2, 0⟩ : St106)] : List St106).flatMap encSt106)), (1, .gone)]⟩) (c := true) (tr2 := [([], []), ([0, 1], []), ([], []), ([], [2, 3, 2, 3, 2, 3])]) (H2 := [.box (encSt32 x0), .gone, .res, .res]) (by kernel_rfl) rfl (fun hc => rfl) (by kernel_rfl) ?_)))
    obtain ⟨y8, hy10, h22⟩ := bindS h11
    refine RJ.call0 (d := (some 49)) (f := 171) (args := [lsv encSt106 2 x0.Pre_, lsv encSt106 2 ([(⟨2, 0⟩ : St106)] : List St106)]) (v := lsv encSt106 2 y8) (tr2 := [([], []), ([0, 1], []), ([], []), ([], [2, 3, 2, 3, 2, 3]), ([], [4, 5])]) (by kernel_rfl) (by kernel_rfl) (.cons (Le.refl _) (.cons (Le.refl _) .nil)) (affix_led_ok hy10) (by kernel_rfl) (kD 2 ?_)
    obtain ⟨y9, hy11, h23⟩ := bindS h22
    exact RJ.call0 (d := (some 52)) (f := 171) (args := [lsv encSt106 2 x0.Suf_, .nl]) (v := lsv encSt106 2 y9) (tr2 := [([], []), ([0, 1], []), ([], []), ([], [2, 3, 2, 3, 2, 3]), ([], [4, 5]), ([], []), ([0, 1], []), ([], [6, 7])]) (by kernel_rfl) (by kernel_rfl) (.cons (Le.refl _) (.cons (Le.nl _) .nil)) (affix_led_ok hy11) (by kernel_rfl) (kD 2 (kEN (kXp (by obtain rfl := oi h23; exact kZ hFn hFH hFD))))
  ·refine kKn (kS (kDr (kD 2 ?_)))
   obtain ⟨y10, hy12, h24⟩ := bindS h9
   refine RJ.call0 (d := (some 55)) (f := 171) (args := [lsv encSt106 2 x0.Pre_, .nl]) (v := lsv encSt106 2 y10) (tr2 := [([], []), ([0, 1], []), ([], [2, 3])]) (by kernel_rfl) (by kernel_rfl) (.cons (Le.refl _) (.cons (Le.nl _) .nil)) (affix_led_ok hy12) (by kernel_rfl) (kD 2 ?_)
   obtain ⟨y11, hy13, h25⟩ := bindS h24
   exact RJ.call0 (d := (some 58)) (f := 171) (args := [lsv encSt106 2 x0.Suf_, .nl]) (v := lsv encSt106 2 y11) (tr2 := [([], []), ([0, 1], []), ([], [2, 3]), ([], []), ([0, 1], []), ([], [4, 5])]) (by kernel_rfl) (by kernel_rfl) (.cons (Le.refl _) (.cons (Le.nl _) .nil)) (affix_led_ok hy13) (by kernel_rfl) (kD 2 (kEN (kX (by obtain rfl := oi h25; exact kZ hFn hFH hFD))))
def affix_resolved_s0 (x0 : St22) (x1 : List Int) : Option (Unit) :=
 (some ())
theorem affix_resolved_s0_ok {x0 : St22} {x1 : List Int} {r : Unit} (h : affix_resolved_s0 x0 x1 = some r) : SC Tryz.prog 173 [.agg (encSt22 x0), lR x1] [] (.mp 0) [.map [(iL 1, .vc 1), (iL 2, .vc 2), (iL 3, .vc 3), (iL 4, lR x1)], vecL (encI .i32) 1 21 ([x0.Minus_] : List Int), vecL (encI .i32) 1 21 ([x0.Plus_] : List Int), vecL (encI .i32) 1 21 ([x0.Percent_] : List Int)] := by
 refine kFn (fn := Tryz.f173) (fun F hFn hFH hFD => ?_)
 unfold affix_resolved_s0 at h
 exact kq (kq (kX (by obtain rfl := oi h; exact kRV [1, 2, 3, 4] (.inr rfl) hFn hFH hFD)))
end Go.Proofs.YtcapcgbamehojaaGreatDoor
