/-
  What the functions of this program come to, as functions of natives, each with the proof that it does. No conditions.
-/
import Derived.Test.YtdflcknbelpflaaProg
import Derived.Test.YtdflcknbelpflaaSySL
import Derived.Test.YtdflcknbelpflaaSyPA
import Derived.Test.YtdflcknbelpflaaSyKK
import Derived.Test.YtdflcknbelpflaaSySC
namespace Go.Proofs.Ytdflcknbelpflaa
open Go Go.Sy Go.RowKit
set_option linter.unusedVariables false
set_option linter.unusedSimpArgs false
set_option maxRecDepth 100000
set_option maxHeartbeats 4000000
abbrev mQ (a b c d : Int) : Ent := .map [(.int .i32 45, .int .i64 a), (.int .i32 43, .int .i64 b), (.int .i32 37, .int .i64 c), (.int .i32 164, .int .i64 d)]
def gtabs : Nat → Option (List SV)
 | _ => none
instance : Inhabited GT := ⟨⟨gtabs⟩⟩
structure St33 where
 Kind_ : Int
 R_ : Int
 deriving Inhabited, DecidableEq
def encSt33 (x : St33) : List SV := [.int .i64 x.Kind_, .int .i32 x.R_]
theorem encSt33_len (x : St33) : (encSt33 x).length = 2 := rfl
structure St23 where
 Pre_ : List St33
 Suf_ : List St33
 NPre_ : List St33
 NSuf_ : List St33
 Neg_ : Bool
 Hash_ : Int
 MinInt_ : Int
 MinFrac_ : Int
 MaxFrac_ : Int
 G1_ : Int
 G2_ : Int
 MinSig_ : Int
 MaxSig_ : Int
 Exp_ : Int
 ExpPlus_ : Bool
 Pad_ : Int
 PadAt_ : Int
 deriving Inhabited, DecidableEq
def encSt23 (x : St23) : List SV := [lsv encSt33 2 x.Pre_, lsv encSt33 2 x.Suf_, lsv encSt33 2 x.NPre_, lsv encSt33 2 x.NSuf_, .bool x.Neg_, .int .i64 x.Hash_, .int .i64 x.MinInt_, .int .i64 x.MinFrac_, .int .i64 x.MaxFrac_, .int .i64 x.G1_, .int .i64 x.G2_, .int .i64 x.MinSig_, .int .i64 x.MaxSig_, .int .i64 x.Exp_, .bool x.ExpPlus_, .int .i32 x.Pad_, .int .i64 x.PadAt_]
theorem encSt23_len (x : St23) : (encSt23 x).length = 17 := rfl
def utf_promised (x0 : Int) : Option (Int) :=
 (bif (decide (x0 < 128)) then (some 1) else (bif (decide ((Int.fdiv x0 32) = 6)) then (some 2) else (bif (decide ((Int.fdiv x0 16) = 14)) then (some 3) else (bif (decide ((Int.fdiv x0 8) = 30)) then (some 4) else (some 0)))))
theorem utf_promised_ok {x0 : Int} {r : Int} (h : utf_promised x0 = some r) : SC Try.prog 57 [.int .u8 x0] [] (.int .i64 r) [] := by
 refine kFn (fn := Try.f57) (fun F hFn hFH hFD => ?_)
 unfold utf_promised at h
 refine kSR ?_
 refine kC 1 [0,2] ?_
 refine kEN ?_
 refine kS ?_
 refine kb 0 ?_
 refine kSR ?_
 refine kC 3 [0,2,3] ?_
 refine kEN ?_
 refine kBJ 3 h (fun h2 => ?_) (fun h3 => ?_)
 ·refine kT ?_
  refine kSR ?_
  refine kC 1 [2] ?_
  refine kEN ?_
  refine kX ?_
  refine PJ.blockRet ?_
  refine PJ.passRet ?_
  obtain rfl := oi h2
  exact kZ hFn hFH hFD
 ·refine kF ?_
  refine kSR ?_
  refine kC 4 [0,2,6] ?_
  refine kEN ?_
  refine kBJ 6 h3 (fun h5 => ?_) (fun h6 => ?_)
  ·refine kT ?_
   refine kSR ?_
   refine kC 1 [2] ?_
   refine kEN ?_
   refine kX ?_
   refine PJ.blockRet ?_
   refine PJ.passRet ?_
   obtain rfl := oi h5
   exact kZ hFn hFH hFD
  ·refine kF ?_
   refine kSR ?_
   refine kC 4 [0,2,10] ?_
   refine kEN ?_
   refine kBJ 10 h6 (fun h8 => ?_) (fun h9 => ?_)
   ·refine kT ?_
    refine kSR ?_
    refine kC 1 [2] ?_
    refine kEN ?_
    refine kX ?_
    refine PJ.blockRet ?_
    refine PJ.passRet ?_
    obtain rfl := oi h8
    exact kZ hFn hFH hFD
   ·refine kF ?_
    refine kSR ?_
    refine kC 4 [2,14] ?_
    refine kEN ?_
    refine kBJ 14 h9 (fun h11 => ?_) (fun h12 => ?_)
    ·refine kT ?_
     refine kSR ?_
     refine kC 1 [2] ?_
     refine kEN ?_
     refine kX ?_
     refine PJ.blockRet ?_
     refine PJ.passRet ?_
     obtain rfl := oi h11
     exact kZ hFn hFH hFD
    ·refine kF ?_
     refine kK ?_
     refine PJ.blockNormal ?_
     refine PJ.next ?_
     refine kSR ?_
     refine kC 1 [2] ?_
     refine kEN ?_
     refine kX ?_
     obtain rfl := oi h12
     exact kZ hFn hFH hFD
def utf_mark (x0 : Int) : Option (Int) :=
 (bif (decide (x0 = 2)) then (some 192) else (bif (decide (x0 = 3)) then (some 224) else (bif (decide (x0 = 4)) then (some 240) else (some 0))))
theorem utf_mark_ok {x0 : Int} {r : Int} (h : utf_mark x0 = some r) : SC Try.prog 58 [.int .i64 x0] [] (.int .u8 r) [] := by
 refine kFn (fn := Try.f58) (fun F hFn hFH hFD => ?_)
 unfold utf_mark at h
 refine kSR ?_
 refine kC 1 [0,2] ?_
 refine kEN ?_
 refine kS ?_
 refine kSR ?_
 refine kC 1 [2,3] ?_
 refine kEN ?_
 refine kb 0 ?_
 refine kSR ?_
 refine kC 2 [2,3,4] ?_
 refine kEN ?_
 refine kBJ 4 h (fun h2 => ?_) (fun h3 => ?_)
 ·refine kT ?_
  refine kSR ?_
  refine kC 1 [2] ?_
  refine kEN ?_
  refine kX ?_
  refine PJ.blockRet ?_
  refine PJ.passRet ?_
  obtain rfl := oi h2
  exact kZ hFn hFH hFD
 ·refine kF ?_
  refine kSR ?_
  refine kC 2 [2,3,6] ?_
  refine kEN ?_
  refine kBJ 6 h3 (fun h5 => ?_) (fun h6 => ?_)
  ·refine kT ?_
   refine kSR ?_
   refine kC 1 [2] ?_
   refine kEN ?_
   refine kX ?_
   refine PJ.blockRet ?_
   refine PJ.passRet ?_
   obtain rfl := oi h5
   exact kZ hFn hFH hFD
  ·refine kF ?_
   refine kSR ?_
   refine kC 2 [2,8] ?_
   refine kEN ?_
   refine kBJ 8 h6 (fun h8 => ?_) (fun h9 => ?_)
   ·refine kT ?_
    refine kSR ?_
    refine kC 1 [2] ?_
    refine kEN ?_
    refine kX ?_
    refine PJ.blockRet ?_
    refine PJ.passRet ?_
    obtain rfl := oi h8
    exact kZ hFn hFH hFD
   ·refine kF ?_
    refine kK ?_
    refine PJ.blockNormal ?_
    refine PJ.next ?_
    refine kSR ?_
    refine kC 1 [2] ?_
    refine kEN ?_
    refine kX ?_
    obtain rfl := oi h9
    exact kZ hFn hFH hFD
def utf_Is (x0 : Int) : Option (Bool) :=
 (Option.bind (bif (decide (x0 ≥ 0)) then (bif (decide (x0 ≤ 1114111)) then (bif (decide (x0 < 55296)) then (some true) else (some (decide (x0 > 57343)))) else (some false)) else (some false)) fun (s10 : Bool) => (some s10))
theorem utf_Is_ok {x0 : Int} {r : Bool} (h : utf_Is x0 = some r) : SC Try.prog 70 [.int .i32 x0] [] (.bool r) [] := by
 refine kFn (fn := Try.f70) (fun F hFn hFH hFD => ?_)
 unfold utf_Is at h
 refine kSR ?_
 refine kC 1 [0,2] ?_
 refine kEN ?_
 obtain ⟨s10, hy12, h14⟩ := bindS h
 refine K.cutN (by kernel_rfl) (fun (s10 : Bool) => ([(2, .bool s10)], [])) s10 ?_ ?_
 ·refine kR ?_
  refine kC 3 [0,2,5] ?_
  refine kB 5 hy12 (fun h16 => ?_) (fun h17 => ?_)
  ·refine kC 4 [0,2,9] ?_
   refine kB 9 h16 (fun h19 => ?_) (fun h20 => ?_)
   ·refine kC 3 [0,2,9,12] ?_
    refine kB 12 h19 (fun h22 => ?_) (fun h23 => ?_)
    ·refine kC 5 [2] ?_
     refine kE ?_
     obtain rfl := oi h22
     exact kN [2]
    ·refine kC 5 [2] ?_
     refine kE ?_
     obtain rfl := oi h23
     exact kN [2]
   ·refine kC 8 [2] ?_
    refine kE ?_
    obtain rfl := oi h20
    exact kN [2]
  ·refine kC 12 [2] ?_
   refine kE ?_
   obtain rfl := oi h17
   exact kN [2]
 ·refine kX ?_
  obtain rfl := oi h14
  exact kZ hFn hFH hFD
def utf_Size (x0 : Int) : Option (Int) :=
 (Option.bind (utf_Is x0) fun y1 => (bif (!y1) then (some 0) else (bif (decide (x0 < 128)) then (some 1) else (bif (decide (x0 < 2048)) then (some 2) else (bif (decide (x0 < 65536)) then (some 3) else (some 4))))))
theorem utf_Size_ok {x0 : Int} {r : Int} (h : utf_Size x0 = some r) : SC Try.prog 59 [.int .i32 x0] [] (.int .i64 r) [] := by
 refine kFn (fn := Try.f59) (fun F hFn hFH hFD => ?_)
 unfold utf_Size at h
 refine kSR ?_
 refine kC 1 [0,2] ?_
 refine kEN ?_
 refine kS ?_
 refine kb 0 ?_
 refine kSR ?_
 refine kC 1 [0,2,4] ?_
 obtain ⟨y1, hy2, h3⟩ := bindS h
 refine kA 5 (utf_Is_ok hy2) ?_
 refine kC 2 [0,2,3] ?_
 refine kEN ?_
 refine kBJ 3 h3 (fun h5 => ?_) (fun h6 => ?_)
 ·refine kT ?_
  refine kSR ?_
  refine kC 1 [2] ?_
  refine kEN ?_
  refine kX ?_
  refine PJ.blockRet ?_
  refine PJ.passRet ?_
  obtain rfl := oi h5
  exact kZ hFn hFH hFD
 ·refine kF ?_
  refine kSR ?_
  refine kC 3 [0,2,7] ?_
  refine kEN ?_
  refine kBJ 7 h6 (fun h8 => ?_) (fun h9 => ?_)
  ·refine kT ?_
   refine kSR ?_
   refine kC 1 [2] ?_
   refine kEN ?_
   refine kX ?_
   refine PJ.blockRet ?_
   refine PJ.passRet ?_
   obtain rfl := oi h8
   exact kZ hFn hFH hFD
  ·refine kF ?_
   refine kSR ?_
   refine kC 3 [0,2,10] ?_
   refine kEN ?_
   refine kBJ 10 h9 (fun h11 => ?_) (fun h12 => ?_)
   ·refine kT ?_
    refine kSR ?_
    refine kC 1 [2] ?_
    refine kEN ?_
    refine kX ?_
    refine PJ.blockRet ?_
    refine PJ.passRet ?_
    obtain rfl := oi h11
    exact kZ hFn hFH hFD
   ·refine kF ?_
    refine kSR ?_
    refine kC 3 [2,13] ?_
    refine kEN ?_
    refine kBJ 13 h12 (fun h14 => ?_) (fun h15 => ?_)
    ·refine kT ?_
     refine kSR ?_
     refine kC 1 [2] ?_
     refine kEN ?_
     refine kX ?_
     refine PJ.blockRet ?_
     refine PJ.passRet ?_
     obtain rfl := oi h14
     exact kZ hFn hFH hFD
    ·refine kF ?_
     refine kK ?_
     refine PJ.blockNormal ?_
     refine PJ.next ?_
     refine kSR ?_
     refine kC 1 [2] ?_
     refine kEN ?_
     refine kX ?_
     obtain rfl := oi h15
     exact kZ hFn hFH hFD
def utf_first (x0 : List Int) : Option (Int × Int) :=
 (bif inR 0 x0.length then (Option.bind (utf_promised (nth x0 0)) fun y2 => (Option.bind (Option.bind (bif (decide (y2 = 0)) then (some true) else (some ((decide (y2 > (x0.length : Int)))))) fun (s28 : Bool) => (bif s28 then (some (.inr (0, 0))) else (some (.inl ())))) (joinX fun (s20 : Unit) => (bif inR 0 x0.length then (Option.bind (utf_mark y2) fun y41 => (Option.bind (bif inS 1 y2 x0.length then (loopN (fun (s90 : Int × Int) => (bif (decide (s90.2 < ((cut x0 1 y2).length : Int))) then (bif inR s90.2 (cut x0 1 y2).length then (bif (decide (¬ ((bits .andNot .u8 (nth (cut x0 1 y2) s90.2) 63)) = 128)) then (some (.inr (.inr (0, 0)))) else (some (.inl ((bits .or .i32 (IntKind.wrap .i32 (s90.1 * 64)) ((IntKind.wrap .i32 ((bits .and .u8 (nth (cut x0 1 y2) s90.2) 63))))), (IntKind.wrap .i64 (s90.2 + 1)))))) else none) else (some (.inr (.inl s90.1))))) big ((IntKind.wrap .i32 (bits .andNot .u8 (nth x0 0) y41)), 0)) else none) (joinX fun (s84 : Int) => (Option.bind (utf_Size s84) fun y129 => (bif (decide (¬ y129 = y2)) then (some (0, 0)) else (some (s84, y2))))))) else none)))) else none)
theorem utf_first_ok {x0 : List Int} {r : Int × Int} (h : utf_first x0 = some r) : SC Try.prog 44 [lsv (encI .u8) 1 x0] [] (.tup [.int .i32 r.1, .int .i64 r.2]) [] := by
 refine kFn (fn := Try.f44) (fun F hFn hFH hFD => ?_)
 unfold utf_first at h
 refine kSR ?_
 refine kC 2 [0,2,3] ?_
 refine kEN ?_
 refine kSR ?_
 refine kC 1 [0,2,3,8] ?_
 obtain ⟨hm, h1⟩ := asrt h
 refine kI 9 (encI_len .u8) hm ?_
 refine kC 1 [0,2,3,10] ?_
 obtain ⟨y2, hy3, h4⟩ := bindS h1
 refine kA 11 (utf_promised_ok hy3) ?_
 refine kC 1 [0,2,3,4] ?_
 refine kEN ?_
 obtain ⟨y21, hy22, h23⟩ := bindS h4
 refine K.cutX (by kernel_rfl) (fun (s20 : Unit) => ([(0, lsv (encI .u8) 1 x0), (2, .int .i32 0), (3, .int .i64 0), (4, .int .i64 y2)], [])) y21 ?_ (fun s20 hs => ?_)
 ·obtain ⟨s28, hy30, h32⟩ := bindS hy22
  refine K.cutN (by kernel_rfl) (fun (s28 : Bool) => ([(0, lsv (encI .u8) 1 x0), (2, .int .i32 0), (3, .int .i64 0), (4, .int .i64 y2), (19, .bool s28)], [])) s28 ?_ ?_
  ·refine kR ?_
   refine kC 3 [0,2,3,4,14] ?_
   refine kB 14 hy30 (fun h34 => ?_) (fun h35 => ?_)
   ·refine kC 5 [0,2,3,4,19] ?_
    refine kE ?_
    obtain rfl := oi h34
    exact kN [0, 2, 3, 4, 19]
   ·refine kC 5 [0,2,3,4,19] ?_
    refine kE ?_
    obtain rfl := oi h35
    exact kN [0, 2, 3, 4, 19]
  ·refine kBJ 19 h32 (fun h37 => ?_) (fun h38 => ?_)
   ·refine kT ?_
    refine kSR ?_
    refine kC 2 [0,2,3,4] ?_
    refine kEN ?_
    refine kX ?_
    obtain rfl := oi h37
    have h39 := joinX_inr h23
    refine PJ.cutXr (fun e => nomatch e) ?_
    obtain rfl := oi h39
    exact kZ hFn hFH hFD
   ·refine kF ?_
    refine kK ?_
    obtain rfl := oi h38
    exact kXl [0, 2, 3, 4]
 ·subst hs
  have h24 := joinX_inl h23
  refine kS ?_
  refine J.keep [0, 2, 3, 4] (L2 := [(0, lsv (encI .u8) 1 x0), (2, .int .i32 0), (3, .int .i64 0), (4, .int .i64 y2)]) (by kernel_rfl) ?_
  refine K.draw (by kernel_rfl) (by kernel_rfl) (by kernel_rfl) (H2 := [.res]) (by kernel_rfl) (n := 0) (by kernel_rfl) ?_
  refine kD 1 ?_
  obtain ⟨hm, h40⟩ := asrt h24
  refine kJ 21 (tr2 := [([], []), ([], [])]) (encI_len .u8) hm ?_
  refine kD 2 ?_
  obtain ⟨y41, hy42, h43⟩ := bindS h40
  refine RJ.call0 (d := (some 24)) (f := 58) (args := [.int .i64 y2]) (v := .int .u8 y41) (tr2 := [([], []), ([], []), ([], []), ([], []), ([], [0, 1])]) (by kernel_rfl) (by kernel_rfl) (.cons (Le.refl _) .nil) (utf_mark_ok hy42) (by kernel_rfl) ?_
  refine kD 3 ?_
  refine kEN ?_
  obtain ⟨y85, hy86, h87⟩ := bindS h43
  refine K.cutX (by kernel_rfl) (fun (s84 : Int) => ([(2, .int .i32 0), (3, .int .i64 0), (4, .int .i64 y2), (5, .int .i32 s84)], [])) y85 ?_ (fun s84 hs => ?_)
  ·refine kSR ?_
   refine kC 2 [2,3,4,5,27,28] ?_
   obtain ⟨hm, h89⟩ := asrt hy86
   refine RJ.rel (d := (some 29)) (ef := ⟨.lst ((y2 : Int).toNat - (1 : Int).toNat) 1 (((x0.flatMap (encI .u8)).take ((y2 : Int).toNat * 1)).drop ((1 : Int).toNat * 1)), [], []⟩) (ef' := ⟨.lst (cut x0 1 y2).length 1 ((cut x0 1 y2).flatMap (encI .u8)), [], []⟩) (c := inS 1 y2 x0.length) (tr2 := []) (H2 := [.res]) (by kernel_rfl) hm (fun hc => N.slice (encI_len .u8) hc) (by kernel_rfl) ?_
   refine kC 2 [2,3,4,5,29,30,31] ?_
   refine kEN ?_
   refine kb 0 ?_
   refine J.wk (Wk.sel (L2 := [(2, .int .i32 0), (3, .int .i64 0), (4, .int .i64 y2), (5, .int .i32 ((IntKind.wrap .i32 (bits .andNot .u8 (nth x0 0) y41)))), (29, lsv (encI .u8) 1 (cut x0 1 y2)), (30, .int .i64 ((cut x0 1 y2).length : Int)), (31, .int .i64 0)]) (H2 := []) 0 (by rw [hFH]; rfl) hFD [] (by kernel_rfl) (by kernel_rfl) (by decide) (by kernel_rfl) (by kernel_rfl) (by kernel_rfl) (by kernel_rfl)) ?_
   refine kl (fun (s90 : Int × Int) => ([(2, .int .i32 0), (3, .int .i64 0), (4, .int .i64 y2), (5, .int .i32 s90.1), (29, lsv (encI .u8) 1 (cut x0 1 y2)), (30, .int .i64 ((cut x0 1 y2).length : Int)), (31, .int .i64 s90.2)], [])) h89 [2, 3, 4, 5, 29, 30, 31] (fun s90 x116 hs115 => ?_)
   refine kSR ?_
   refine kC 1 [2,3,4,5,29,30,31,32] ?_
   refine kEN ?_
   refine kS ?_
   refine kBJ 32 hs115 (fun h118 => ?_) (fun h119 => ?_)
   ·refine kT ?_
    refine kK ?_
    refine PJ.next ?_
    refine kS ?_
    refine kb 1 ?_
    refine kSR ?_
    obtain ⟨hm, h120⟩ := asrt h118
    refine kI 33 (encI_len .u8) hm ?_
    refine kC 2 [2,3,4,5,7,29,30,31] ?_
    refine kEN ?_
    refine kS ?_
    refine kSR ?_
    refine kC 3 [2,3,4,5,7,29,30,31,37] ?_
    refine kEN ?_
    refine kBJ 37 h120 (fun h122 => ?_) (fun h123 => ?_)
    ·refine kT ?_
     refine kSR ?_
     refine kC 2 [2,3,4,5,7,29,30,31] ?_
     refine kEN ?_
     refine kX ?_
     refine PJ.passRet ?_
     refine PJ.blockRet ?_
     refine PJ.passRet ?_
     obtain rfl := oi h122
     refine PJ.loopOut (fun e => nomatch e) (fun he126 => ?_)
     have h124 := congrArg some he126
     refine PJ.blockRet ?_
     obtain rfl := oi h124
     have h125 := joinX_inr h87
     refine PJ.cutXr (fun e => nomatch e) ?_
     obtain rfl := oi h125
     exact kZ hFn hFH hFD
    ·refine kF ?_
     refine kK ?_
     refine PJ.next ?_
     refine kR ?_
     refine kC 7 [2,3,4,5,29,30,31] ?_
     refine kE ?_
     refine PJ.blockNormal ?_
     refine PJ.next ?_
     refine kR ?_
     refine kC 2 [2,3,4,5,29,30,31] ?_
     refine kE ?_
     obtain rfl := oi h123
     exact kLN [2, 3, 4, 5, 29, 30, 31]
   ·refine kF ?_
    refine K.exit 0 (by kernel_rfl) ?_
    refine PJ.passExit ?_
    obtain rfl := oi h119
    refine PJ.loopOut (fun e => nomatch e) (fun he128 => ?_)
    have h127 := congrArg some he128
    refine PJ.blockOut ?_
    obtain rfl := oi h127
    exact kXl [2, 3, 4, 5]
  ·subst hs
   have h88 := joinX_inl h87
   refine kS ?_
   refine kSR ?_
   refine kC 1 [2,3,4,5,45] ?_
   obtain ⟨y129, hy130, h131⟩ := bindS h88
   refine kA 46 (utf_Size_ok hy130) ?_
   refine kC 2 [2,3,4,5,48] ?_
   refine kEN ?_
   refine kBJ 48 h131 (fun h133 => ?_) (fun h134 => ?_)
   ·refine kT ?_
    refine kSR ?_
    refine kC 2 [2,3,4,5] ?_
    refine kEN ?_
    refine kX ?_
    refine PJ.passRet ?_
    obtain rfl := oi h133
    exact kZ hFn hFH hFD
   ·refine kF ?_
    refine kK ?_
    refine PJ.next ?_
    refine kSR ?_
    refine kC 4 [2,3] ?_
    refine kEN ?_
    refine kX ?_
    obtain rfl := oi h134
    exact kZ hFn hFH hFD
def utf_Decode (x0 : List Int) : Option ((List Int) × Int × Int) :=
 (Option.bind (loopN (fun (s57 : Int × (List Int)) => (bif (decide (s57.1 < (x0.length : Int))) then (bif inS s57.1 (x0.length : Int) x0.length then (Option.bind (utf_first (cut x0 s57.1 (x0.length : Int))) fun y96 => (bif (decide (y96.2 = 0)) then (some (.inr (.inr (([] : List Int), s57.1, 3)))) else (bif room (s57.2.length + ([y96.1] : List Int).length) then (some (.inl ((IntKind.wrap .i64 (s57.1 + y96.2)), (s57.2 ++ ([y96.1] : List Int))))) else none))) else none) else (some (.inr (.inl s57.2))))) big (0, ([] : List Int))) (joinX fun (s52 : (List Int)) => (some (s52, 0, 0))))
theorem utf_Decode_ok {x0 : List Int} {r : (List Int) × Int × Int} (h : utf_Decode x0 = some r) : SC Try.prog 31 [lsv (encI .u8) 1 x0] [] (.tup [lsv (encI .i32) 1 r.1, .int .i64 r.2.1, .int .i64 r.2.2]) [] := by
 refine kFn (fn := Try.f31) (fun F hFn hFH hFD => ?_)
 unfold utf_Decode at h
 refine kSR ?_
 refine kC 3 [0,2,3,4] ?_
 refine kEN ?_
 refine kSR ?_
 refine kC 1 [0,2,3,4,5] ?_
 refine kEN ?_
 obtain ⟨y53, hy54, h55⟩ := bindS h
 refine K.cutX (by kernel_rfl) (fun (s52 : (List Int)) => ([(2, .nl), (3, .int .i64 0), (4, .int .i64 0), (5, .vc 0)], [vecL (encI .i32) 1 21 s52])) y53 ?_ (fun s52 hs => ?_)
 ·refine kSR ?_
  refine kC 1 [0,2,3,4,5,6] ?_
  refine kEN ?_
  refine kb 0 ?_
  refine J.wk (Wk.viv 5 1 21 (by kernel_rfl)) ?_
  refine kl (fun (s57 : Int × (List Int)) => ([(0, lsv (encI .u8) 1 x0), (2, .nl), (3, .int .i64 0), (4, .int .i64 0), (5, .vc 0), (6, .int .i64 s57.1)], [vecL (encI .i32) 1 21 s57.2])) hy54 [0, 2, 3, 4, 5, 6] (fun s57 x91 hs90 => ?_)
  refine kS ?_
  refine kSR ?_
  refine kC 4 [0,2,3,4,5,6,12] ?_
  refine kEN ?_
  refine kBJ 12 hs90 (fun h93 => ?_) (fun h94 => ?_)
  ·refine kT ?_
   refine kK ?_
   refine PJ.next ?_
   refine kb 1 ?_
   refine kSR ?_
   refine kC 2 [0,2,3,4,5,6,14,15] ?_
   obtain ⟨hm, h95⟩ := asrt h93
   refine RJ.rel (d := (some 16)) (ef := ⟨.lst (((x0.length : Int) : Int).toNat - (s57.1 : Int).toNat) 1 (((x0.flatMap (encI .u8)).take (((x0.length : Int) : Int).toNat * 1)).drop ((s57.1 : Int).toNat * 1)), [], []⟩) (ef' := ⟨.lst (cut x0 s57.1 (x0.length : Int)).length 1 ((cut x0 s57.1 (x0.length : Int)).flatMap (encI .u8)), [], []⟩) (c := inS s57.1 (x0.length : Int) x0.length) (tr2 := []) (H2 := [vecL (encI .i32) 1 21 s57.2]) (by kernel_rfl) hm (fun hc => N.slice (encI_len .u8) hc) (by kernel_rfl) ?_
   obtain ⟨y96, hy97, h98⟩ := bindS h95
   refine kA 17 (utf_first_ok hy97) ?_
   refine kC 5 [0,2,3,4,5,6,7,8] ?_
   refine kEN ?_
   refine kS ?_
   refine kSR ?_
   refine kC 2 [0,2,3,4,5,6,7,8,21] ?_
   refine kEN ?_
   refine kBJ 21 h98 (fun h100 => ?_) (fun h101 => ?_)
   ·refine kT ?_
    refine kSR ?_
    refine kC 4 [0,2,3,4,5,6,7,8] ?_
    refine kEN ?_
    refine kX ?_
    refine PJ.passRet ?_
    refine PJ.blockRet ?_
    obtain rfl := oi h100
    refine PJ.loopOut (fun e => nomatch e) (fun he104 => ?_)
    have h102 := congrArg some he104
    refine PJ.blockRet ?_
    obtain rfl := oi h102
    have h103 := joinX_inr h55
    refine PJ.cutXr (fun e => nomatch e) ?_
    obtain rfl := oi h103
    refine PJ.res (v1 := .tup [.nl, .int .i64 s57.1, .int .i64 3]) (Le.tup (.cons (Le.nl _) (.cons (Le.refl _) (.cons (Le.refl _) .nil)))) ?_
    exact kZ hFn hFH hFD
   ·refine kF ?_
    refine kK ?_
    refine PJ.next ?_
    refine kSR ?_
    refine kC 3 [0,2,3,4,5,6,8,23,25] ?_
    obtain ⟨hm, h105⟩ := asrt h101
    refine RJ.rel (d := (some 26)) (ef := ⟨.vc 2, [0, 1], [(0, .gone), (2, .vec (s57.2.length + ([y96.1] : List Int).length) 1 21 (s57.2.flatMap (encI .i32) ++ ([y96.1] : List Int).flatMap (encI .i32)))]⟩) (ef' := ⟨.vc 2, [0, 1], [(0, .gone), (2, vecL (encI .i32) 1 21 (s57.2 ++ ([y96.1] : List Int)))]⟩) (c := room (s57.2.length + ([y96.1] : List Int).length)) (tr2 := []) (H2 := [.gone, vecL (encI .i32) 1 21 ([y96.1] : List Int), vecL (encI .i32) 1 21 (s57.2 ++ ([y96.1] : List Int))]) (by kernel_rfl) hm (fun hc => N.app) (by kernel_rfl) ?_
    refine kC 1 [0,2,3,4,5,6,8] ?_
    refine kEN ?_
    refine kR ?_
    refine kC 4 [0,2,3,4,5,6] ?_
    refine kE ?_
    refine PJ.blockNormal ?_
    obtain rfl := oi h105
    refine kW (L2 := [(0, lsv (encI .u8) 1 x0), (2, .nl), (3, .int .i64 0), (4, .int .i64 0), (5, .vc 0), (6, .int .i64 (IntKind.wrap .i64 (s57.1 + y96.2)))]) (H2 := [vecL (encI .i32) 1 21 (s57.2 ++ ([y96.1] : List Int))]) hFH hFD [2] ?_
    exact kLN [0, 2, 3, 4, 5, 6]
  ·refine kF ?_
   refine K.exit 0 (by kernel_rfl) ?_
   refine PJ.passExit ?_
   obtain rfl := oi h94
   refine PJ.loopOut (fun e => nomatch e) (fun he107 => ?_)
   have h106 := congrArg some he107
   refine PJ.blockOut ?_
   obtain rfl := oi h106
   exact kXl [2, 3, 4, 5]
 ·subst hs
  have h56 := joinX_inl h55
  refine kSR ?_
  refine kC 4 [2,3,4] ?_
  refine kEN ?_
  refine kX ?_
  obtain rfl := oi h56
  refine PJ.wk (Wk.freeze 0 (n := s52.length) (k := 1) (e := 21) (cs := s52.flatMap (encI .i32)) (by kernel_rfl)) ?_
  exact kZ hFn hFH hFD
def pat_signs_s0  : Option (Unit) :=
 (some ())
theorem pat_signs_s0_ok  {r : Unit} (h : pat_signs_s0 = some r) : SC Try.prog 45 [] [] (.mp 0) [mQ 1 2 3 4] := by
 refine kFn (fn := Try.f45) (fun F hFn hFH hFD => ?_)
 unfold pat_signs_s0 at h
 refine kSR ?_
 refine kC 1 [] ?_
 refine kEN ?_
 refine kSR ?_
 refine kC 7 [0] ?_
 refine kEN ?_
 refine kX ?_
 obtain rfl := oi h
 exact kV [0] hFn hFH hFD (v1 := .mp 0)
def pat_reader__is_s0 (x0 : Int) (x1 : Int) (x2 : List Int) (x3 : Int) (x4 : Int) (x5 : Int) (x6 : Int) (x7 : Int) (x8 : Int) : Option (Bool) :=
 (Option.bind (bif (decide ((IntKind.wrap .i64 (x3 + x1)) < (x2.length : Int))) then (bif inR (IntKind.wrap .i64 (x3 + x1)) x2.length then (some ((decide (((nth x2 (IntKind.wrap .i64 (x3 + x1)))) = x0)))) else none) else (some false)) fun (s5 : Bool) => (some s5))
theorem pat_reader__is_s0_ok {x0 : Int} {x1 : Int} {x2 : List Int} {x3 : Int} {x4 : Int} {x5 : Int} {x6 : Int} {x7 : Int} {x8 : Int} {r : Bool} (h : pat_reader__is_s0 x0 x1 x2 x3 x4 x5 x6 x7 x8 = some r) : SC Try.prog 71 [.ptr 0 0, .int .i32 x0, .int .i64 x1] [.box [lsv (encI .i32) 1 x2, .mp 1, .int .i64 x3, .int .i64 x4], mQ x5 x6 x7 x8] (.bool r) [.box [lsv (encI .i32) 1 x2, .mp 1, .int .i64 x3, .int .i64 x4], mQ x5 x6 x7 x8] := by
 refine kFn (fn := Try.f71) (fun F hFn hFH hFD => ?_)
 unfold pat_reader__is_s0 at h
 refine kSR ?_
 refine kC 1 [0,1,2,6] ?_
 refine kEN ?_
 obtain ⟨s5, hy7, h9⟩ := bindS h
 refine K.cutN (by kernel_rfl) (fun (s5 : Bool) => ([(6, .bool s5)], [.box [lsv (encI .i32) 1 x2, .mp 1, .int .i64 x3, .int .i64 x4], mQ x5 x6 x7 x8])) s5 ?_ ?_
 ·refine J.keep [0, 1, 2, 6] (L2 := [(0, .ptr 0 0), (1, .int .i32 x0), (2, .int .i64 x1), (6, .bool false)]) (by kernel_rfl) ?_
  refine K.draw (by kernel_rfl) (by kernel_rfl) (by kernel_rfl) (H2 := [.box [lsv (encI .i32) 1 x2, .mp 1, .int .i64 x3, .int .i64 x4], mQ x5 x6 x7 x8]) (by kernel_rfl) (n := 2) (by kernel_rfl) ?_
  refine kD 13 ?_
  refine kB 19 hy7 (fun h11 => ?_) (fun h12 => ?_)
  ·refine kD 10 ?_
   obtain ⟨hm, h13⟩ := asrt h11
   refine kJ 30 (tr2 := [([], []), ([], []), ([], []), ([0, 1], []), ([], []), ([], []), ([], []), ([], []), ([], []), ([0, 1], []), ([], []), ([], []), ([], []), ([], []), ([], []), ([], []), ([0, 1], []), ([], []), ([], []), ([], []), ([0, 1], []), ([], []), ([], []), ([], [])]) (encI_len .i32) hm ?_
   refine kD 5 ?_
   refine kE ?_
   obtain rfl := oi h13
   exact kN [6]
  ·refine kD 16 ?_
   refine kE ?_
   obtain rfl := oi h12
   exact kN [6]
 ·refine kX ?_
  obtain rfl := oi h9
  exact kV [0, 1] hFn hFH hFD (v1 := .bool s5)
def pat_reader__eat_s0 (x0 : Int) (x1 : List Int) (x2 : Int) (x3 : Int) (x4 : Int) (x5 : Int) (x6 : Int) (x7 : Int) : Option (Bool × Int) :=
 (Option.bind (pat_reader__is_s0 x0 0 x1 x2 x3 x4 x5 x6 x7) fun y1 => (bif (!y1) then (some (false, x2)) else (some (true, (IntKind.wrap .i64 (x2 + 1))))))
theorem pat_reader__eat_s0_ok {x0 : Int} {x1 : List Int} {x2 : Int} {x3 : Int} {x4 : Int} {x5 : Int} {x6 : Int} {x7 : Int} {r : Bool × Int} (h : pat_reader__eat_s0 x0 x1 x2 x3 x4 x5 x6 x7 = some r) : SC Try.prog 63 [.ptr 0 0, .int .i32 x0] [.box [lsv (encI .i32) 1 x1, .mp 1, .int .i64 x2, .int .i64 x3], mQ x4 x5 x6 x7] (.bool r.1) [.box [lsv (encI .i32) 1 x1, .mp 1, .int .i64 r.2, .int .i64 x3], mQ x4 x5 x6 x7] := by
 refine kFn (fn := Try.f63) (fun F hFn hFH hFD => ?_)
 unfold pat_reader__eat_s0 at h
 refine kSR ?_
 refine kC 1 [0,1,4] ?_
 refine kEN ?_
 refine kS ?_
 refine kSR ?_
 refine kC 2 [0,4,5,6] ?_
 obtain ⟨y1, hy2, h3⟩ := bindS h
 refine kCG (some 7) (args := [.ptr 0 0, .int .i32 x0, .int .i64 0]) (v := .bool y1) (H2 := [.box [lsv (encI .i32) 1 x1, .mp 1, .int .i64 x2, .int .i64 x3], mQ x4 x5 x6 x7]) [0, 1] (pat_reader__is_s0_ok hy2) ?_
 refine kC 1 [0,4,8] ?_
 refine kEN ?_
 refine kBJ 8 h3 (fun h5 => ?_) (fun h6 => ?_)
 ·refine kT ?_
  refine kSR ?_
  refine kC 1 [0,4] ?_
  refine kEN ?_
  refine kX ?_
  refine PJ.passRet ?_
  obtain rfl := oi h5
  exact kV [0, 1] hFn hFH hFD (v1 := .bool false)
 ·refine kF ?_
  refine kK ?_
  refine PJ.next ?_
  refine kSR ?_
  refine kC 8 [4] ?_
  refine kEN ?_
  refine kSR ?_
  refine kC 1 [4] ?_
  refine kEN ?_
  refine kX ?_
  obtain rfl := oi h6
  exact kV [0, 1] hFn hFH hFD (v1 := .bool true)
def pat_reader__fail_s0 (x0 : Int) (x1 : List Int) (x2 : Int) (x3 : Int) (x4 : Int) (x5 : Int) (x6 : Int) (x7 : Int) : Option (Unit) :=
 (some ())
theorem pat_reader__fail_s0_ok0 {x0 : Int} {x1 : List Int} {x2 : Int} {x3 : Int} {x4 : Int} {x5 : Int} {x6 : Int} {x7 : Int} {r : Unit} (h : pat_reader__fail_s0 x0 x1 x2 x3 x4 x5 x6 x7 = some r) : SP Try.prog 65 [.ptr 0 0, .int .i64 x0] [.box [lsv (encI .i32) 1 x1, .mp 1, .int .i64 x2, .int .i64 x3], mQ x4 x5 x6 x7] [.box [.undef, .mp 1, .int .i64 x2, .int .i64 x0], mQ x4 x5 x6 x7] := by
 refine kFnP (fn := Try.f65) (fun F hFn hFH hFD => ?_)
 unfold pat_reader__fail_s0 at h
 refine kSR ?_
 refine kC 5 [] ?_
 refine kEN ?_
 refine kR ?_
 refine RJ.panic (d := 8) (by kernel_rfl) ?_ (by rw [hFn]; kernel_rfl)
 obtain rfl := oi h
 refine PP.wk (Wk.undefs 0 [true, false, false, false] (cs := [lsv (encI .i32) 1 x1, .mp 1, .int .i64 x2, .int .i64 x0]) (by kernel_rfl)) ?_
 exact K.panV (H0 := [.box [lsv (encI .i32) 1 x1, .mp 1, .int .i64 x2, .int .i64 x3], mQ x4 x5 x6 x7]) (H' := [.box [.undef, .mp 1, .int .i64 x2, .int .i64 x0], mQ x4 x5 x6 x7]) [0, 1] hFH hFD (by kernel_rfl) (by kernel_rfl) (by decide) (by kernel_rfl) (by kernel_rfl) (by kernel_rfl)
def pat_reader__pad_s0 (x0 : Int) (x1 : List Int) (x2 : Int) (x3 : Int) (x4 : Int) (x5 : Int) (x6 : Int) (x7 : Int) (x8 : Bool) (x9 : Int) (x10 : Int) (x11 : Int) (x12 : Int) (x13 : Int) (x14 : Int) (x15 : Int) (x16 : Int) (x17 : Int) (x18 : Bool) (x19 : Int) (x20 : Int) : Option ((Int × Int × Int) ⊕ (Int × Int)) :=
 (Option.bind (Option.bind (bif (decide (¬ x20 = 0)) then (some (true, x2)) else (Option.bind (pat_reader__eat_s0 42 x1 x2 x3 x4 x5 x6 x7) fun y41 => (some ((!y41.1), y41.2)))) fun (s33 : Bool × Int) => (bif s33.1 then (some (.inr (.inl (s33.2, x19, x20)))) else (some (.inl s33.2)))) (joinX fun (s22 : Int) => (Option.bind (bif (decide (s22 = (x1.length : Int))) then (Option.bind (pat_reader__fail_s0 s22 x1 s22 x3 x4 x5 x6 x7) fun y64 => (some (.inr (.inr (s22, s22))))) else (some (.inl ()))) (joinX fun (s56 : Unit) => (bif inR s22 x1.length then (some (.inl ((IntKind.wrap .i64 (s22 + 1)), (nth x1 s22), x0))) else none)))))
theorem pat_reader__pad_s0_ok0 {x0 : Int} {x1 : List Int} {x2 : Int} {x3 : Int} {x4 : Int} {x5 : Int} {x6 : Int} {x7 : Int} {x8 : Bool} {x9 : Int} {x10 : Int} {x11 : Int} {x12 : Int} {x13 : Int} {x14 : Int} {x15 : Int} {x16 : Int} {x17 : Int} {x18 : Bool} {x19 : Int} {x20 : Int} {r : Int × Int × Int} (h : pat_reader__pad_s0 x0 x1 x2 x3 x4 x5 x6 x7 x8 x9 x10 x11 x12 x13 x14 x15 x16 x17 x18 x19 x20 = some (.inl r)) : SC Try.prog 60 [.ptr 0 0, .ptr 2 0, .int .i64 x0] [.box [lsv (encI .i32) 1 x1, .mp 1, .int .i64 x2, .int .i64 x3], mQ x4 x5 x6 x7, .box [.nl, .nl, .nl, .nl, .bool x8, .int .i64 x9, .int .i64 x10, .int .i64 x11, .int .i64 x12, .int .i64 x13, .int .i64 x14, .int .i64 x15, .int .i64 x16, .int .i64 x17, .bool x18, .int .i32 x19, .int .i64 x20]] (.tup []) [.box [lsv (encI .i32) 1 x1, .mp 1, .int .i64 r.1, .int .i64 x3], mQ x4 x5 x6 x7, .box [.nl, .nl, .nl, .nl, .bool x8, .int .i64 x9, .int .i64 x10, .int .i64 x11, .int .i64 x12, .int .i64 x13, .int .i64 x14, .int .i64 x15, .int .i64 x16, .int .i64 x17, .bool x18, .int .i32 r.2.1, .int .i64 r.2.2]] := by
 refine kFn (fn := Try.f60) (fun F hFn hFH hFD => ?_)
 unfold pat_reader__pad_s0 at h
 obtain ⟨y23, hy24, h25⟩ := bindS h
 refine K.cutX (by kernel_rfl) (fun (s22 : Int) => ([(0, .ptr 0 0), (1, .ptr 2 0), (2, .int .i64 x0)], [.box [lsv (encI .i32) 1 x1, .mp 1, .int .i64 s22, .int .i64 x3], mQ x4 x5 x6 x7, .box [.nl, .nl, .nl, .nl, .bool x8, .int .i64 x9, .int .i64 x10, .int .i64 x11, .int .i64 x12, .int .i64 x13, .int .i64 x14, .int .i64 x15, .int .i64 x16, .int .i64 x17, .bool x18, .int .i32 x19, .int .i64 x20]])) y23 ?_ (fun s22 hs => ?_)
 ·obtain ⟨s33, hy35, h37⟩ := bindS hy24
  refine K.cutN (by kernel_rfl) (fun (s33 : Bool × Int) => ([(0, .ptr 0 0), (1, .ptr 2 0), (2, .int .i64 x0), (15, .bool s33.1)], [.box [lsv (encI .i32) 1 x1, .mp 1, .int .i64 s33.2, .int .i64 x3], mQ x4 x5 x6 x7, .box [.nl, .nl, .nl, .nl, .bool x8, .int .i64 x9, .int .i64 x10, .int .i64 x11, .int .i64 x12, .int .i64 x13, .int .i64 x14, .int .i64 x15, .int .i64 x16, .int .i64 x17, .bool x18, .int .i32 x19, .int .i64 x20]])) s33 ?_ ?_
  ·refine kR ?_
   refine kC 6 [0,1,2,11] ?_
   refine kB 11 hy35 (fun h39 => ?_) (fun h40 => ?_)
   ·refine kC 4 [0,1,2,15] ?_
    refine kE ?_
    obtain rfl := oi h39
    exact kN [0, 1, 2, 15]
   ·refine kC 1 [0,1,2,11,12] ?_
    obtain ⟨y41, hy42, h43⟩ := bindS h40
    refine kCG (some 13) (args := [.ptr 0 0, .int .i32 42]) (v := .bool y41.1) (H2 := [.box [lsv (encI .i32) 1 x1, .mp 1, .int .i64 y41.2, .int .i64 x3], mQ x4 x5 x6 x7, .box [.nl, .nl, .nl, .nl, .bool x8, .int .i64 x9, .int .i64 x10, .int .i64 x11, .int .i64 x12, .int .i64 x13, .int .i64 x14, .int .i64 x15, .int .i64 x16, .int .i64 x17, .bool x18, .int .i32 x19, .int .i64 x20]]) [0, 1] (pat_reader__eat_s0_ok hy42) ?_
    refine kC 2 [0,1,2,15] ?_
    refine kE ?_
    obtain rfl := oi h43
    exact kN [0, 1, 2, 15]
  ·refine kBJ 15 h37 (fun h45 => ?_) (fun h46 => ?_)
   ·refine kT ?_
    refine kX ?_
    obtain rfl := oi h45
    have h47 := joinX_inr h25
    refine PJ.cutXr (fun e => nomatch e) ?_
    obtain rfl := Sum.inl.inj (Option.some.inj h47)
    exact kV [0, 1, 2] hFn hFH hFD (v1 := .tup [])
   ·refine kF ?_
    refine kK ?_
    obtain rfl := oi h46
    exact kXl [0, 1, 2]
 ·subst hs
  have h26 := joinX_inl h25
  obtain ⟨y57, hy58, h59⟩ := bindS h26
  refine K.cutX (by kernel_rfl) (fun (s56 : Unit) => ([(0, .ptr 0 0), (1, .ptr 2 0), (2, .int .i64 x0)], [.box [lsv (encI .i32) 1 x1, .mp 1, .int .i64 s22, .int .i64 x3], mQ x4 x5 x6 x7, .box [.nl, .nl, .nl, .nl, .bool x8, .int .i64 x9, .int .i64 x10, .int .i64 x11, .int .i64 x12, .int .i64 x13, .int .i64 x14, .int .i64 x15, .int .i64 x16, .int .i64 x17, .bool x18, .int .i32 x19, .int .i64 x20]])) y57 ?_ (fun s56 hs => ?_)
  ·refine kS ?_
   refine J.keep [0, 1, 2] (L2 := [(0, .ptr 0 0), (1, .ptr 2 0), (2, .int .i64 x0)]) (by kernel_rfl) ?_
   refine K.draw (by kernel_rfl) (by kernel_rfl) (by kernel_rfl) (H2 := [.box [lsv (encI .i32) 1 x1, .mp 1, .int .i64 s22, .int .i64 x3], mQ x4 x5 x6 x7, .box [.nl, .nl, .nl, .nl, .bool x8, .int .i64 x9, .int .i64 x10, .int .i64 x11, .int .i64 x12, .int .i64 x13, .int .i64 x14, .int .i64 x15, .int .i64 x16, .int .i64 x17, .bool x18, .int .i32 x19, .int .i64 x20]]) (by kernel_rfl) (n := 3) (by kernel_rfl) ?_
   refine kD 10 ?_
   refine kEN ?_
   refine kBJ 25 hy58 (fun h62 => ?_) (fun h63 => ?_)
   ·refine kT ?_
    refine kR ?_
    refine kC 5 [0,1,2,26,30] ?_
    obtain ⟨y64, hy65, h66⟩ := bindS h62
    refine RJ.callP (d := (some 31)) (f := 65) (args := [.ptr 0 0, .int .i64 s22]) (args0 := [.ptr 0 0, .int .i64 s22]) (H0 := [.box [lsv (encI .i32) 1 x1, .mp 1, .int .i64 s22, .int .i64 x3], mQ x4 x5 x6 x7]) (H0' := [.box [.undef, .mp 1, .int .i64 s22, .int .i64 s22], mQ x4 x5 x6 x7]) (H2 := [.box [.undef, .mp 1, .int .i64 s22, .int .i64 s22], mQ x4 x5 x6 x7, .box [.nl, .nl, .nl, .nl, .bool x8, .int .i64 x9, .int .i64 x10, .int .i64 x11, .int .i64 x12, .int .i64 x13, .int .i64 x14, .int .i64 x15, .int .i64 x16, .int .i64 x17, .bool x18, .int .i32 x19, .int .i64 x20]]) [0, 1] (by kernel_rfl) (by kernel_rfl) (by kernel_rfl) (by kernel_rfl) (by decide) (by kernel_rfl) (by kernel_rfl) (by kernel_rfl) (.cons (Le.refl _) (.cons (Le.refl _) .nil)) (pat_reader__fail_s0_ok0 hy65) (by kernel_rfl) (by kernel_rfl) ?_
    obtain rfl := oi h66
    have h68 := joinX_inr h59
    refine PP.cutXr ?_
    cases h68
   ·refine kF ?_
    refine kK ?_
    obtain rfl := oi h63
    exact kXl [0, 1, 2]
  ·subst hs
   have h60 := joinX_inl h59
   refine kS ?_
   refine J.keep [0, 1, 2] (L2 := [(0, .ptr 0 0), (1, .ptr 2 0), (2, .int .i64 x0)]) (by kernel_rfl) ?_
   refine K.draw (by kernel_rfl) (by kernel_rfl) (by kernel_rfl) (H2 := [.box [lsv (encI .i32) 1 x1, .mp 1, .int .i64 s22, .int .i64 x3], mQ x4 x5 x6 x7, .box [.nl, .nl, .nl, .nl, .bool x8, .int .i64 x9, .int .i64 x10, .int .i64 x11, .int .i64 x12, .int .i64 x13, .int .i64 x14, .int .i64 x15, .int .i64 x16, .int .i64 x17, .bool x18, .int .i32 x19, .int .i64 x20]]) (by kernel_rfl) (n := 3) (by kernel_rfl) ?_
   refine kD 10 ?_
   obtain ⟨hm, h69⟩ := asrt h60
   refine kJ 42 (tr2 := [([], []), ([], []), ([], []), ([], []), ([], []), ([0, 1], []), ([], []), ([], []), ([], []), ([0, 1], []), ([], [])]) (encI_len .i32) hm ?_
   refine kD 8 ?_
   refine kEN ?_
   refine kR ?_
   refine kC 8 [] ?_
   refine kE ?_
   obtain rfl := Sum.inl.inj (Option.some.inj h69)
   exact K.retV (H0 := [.box [lsv (encI .i32) 1 x1, .mp 1, .int .i64 x2, .int .i64 x3], mQ x4 x5 x6 x7, .box [.nl, .nl, .nl, .nl, .bool x8, .int .i64 x9, .int .i64 x10, .int .i64 x11, .int .i64 x12, .int .i64 x13, .int .i64 x14, .int .i64 x15, .int .i64 x16, .int .i64 x17, .bool x18, .int .i32 x19, .int .i64 x20]]) [0, 1, 2] (.inl rfl) hFn hFH hFD (by kernel_rfl) (v1 := .tup []) (by kernel_rfl) (by kernel_rfl) (by kernel_rfl) (by decide) (by kernel_rfl) (by kernel_rfl) (by kernel_rfl) (by kernel_rfl) (by kernel_rfl)
theorem pat_reader__pad_s0_ok1 {x0 : Int} {x1 : List Int} {x2 : Int} {x3 : Int} {x4 : Int} {x5 : Int} {x6 : Int} {x7 : Int} {x8 : Bool} {x9 : Int} {x10 : Int} {x11 : Int} {x12 : Int} {x13 : Int} {x14 : Int} {x15 : Int} {x16 : Int} {x17 : Int} {x18 : Bool} {x19 : Int} {x20 : Int} {r : Int × Int} (h : pat_reader__pad_s0 x0 x1 x2 x3 x4 x5 x6 x7 x8 x9 x10 x11 x12 x13 x14 x15 x16 x17 x18 x19 x20 = some (.inr r)) : SP Try.prog 60 [.ptr 0 0, .ptr 2 0, .int .i64 x0] [.box [lsv (encI .i32) 1 x1, .mp 1, .int .i64 x2, .int .i64 x3], mQ x4 x5 x6 x7, .box [.nl, .nl, .nl, .nl, .bool x8, .int .i64 x9, .int .i64 x10, .int .i64 x11, .int .i64 x12, .int .i64 x13, .int .i64 x14, .int .i64 x15, .int .i64 x16, .int .i64 x17, .bool x18, .int .i32 x19, .int .i64 x20]] [.box [.undef, .mp 1, .int .i64 r.1, .int .i64 r.2], mQ x4 x5 x6 x7, .box [.undef, .undef, .undef, .undef, .bool x8, .int .i64 x9, .int .i64 x10, .int .i64 x11, .int .i64 x12, .int .i64 x13, .int .i64 x14, .int .i64 x15, .int .i64 x16, .int .i64 x17, .bool x18, .int .i32 x19, .int .i64 x20]] := by
 refine kFnP (fn := Try.f60) (fun F hFn hFH hFD => ?_)
 unfold pat_reader__pad_s0 at h
 obtain ⟨y23, hy24, h25⟩ := bindS h
 refine K.cutX (by kernel_rfl) (fun (s22 : Int) => ([(0, .ptr 0 0), (1, .ptr 2 0), (2, .int .i64 x0)], [.box [lsv (encI .i32) 1 x1, .mp 1, .int .i64 s22, .int .i64 x3], mQ x4 x5 x6 x7, .box [.nl, .nl, .nl, .nl, .bool x8, .int .i64 x9, .int .i64 x10, .int .i64 x11, .int .i64 x12, .int .i64 x13, .int .i64 x14, .int .i64 x15, .int .i64 x16, .int .i64 x17, .bool x18, .int .i32 x19, .int .i64 x20]])) y23 ?_ (fun s22 hs => ?_)
 ·obtain ⟨s33, hy35, h37⟩ := bindS hy24
  refine K.cutN (by kernel_rfl) (fun (s33 : Bool × Int) => ([(0, .ptr 0 0), (1, .ptr 2 0), (2, .int .i64 x0), (15, .bool s33.1)], [.box [lsv (encI .i32) 1 x1, .mp 1, .int .i64 s33.2, .int .i64 x3], mQ x4 x5 x6 x7, .box [.nl, .nl, .nl, .nl, .bool x8, .int .i64 x9, .int .i64 x10, .int .i64 x11, .int .i64 x12, .int .i64 x13, .int .i64 x14, .int .i64 x15, .int .i64 x16, .int .i64 x17, .bool x18, .int .i32 x19, .int .i64 x20]])) s33 ?_ ?_
  ·refine kR ?_
   refine kC 6 [0,1,2,11] ?_
   refine kB 11 hy35 (fun h39 => ?_) (fun h40 => ?_)
   ·refine kC 4 [0,1,2,15] ?_
    refine kE ?_
    obtain rfl := oi h39
    exact kN [0, 1, 2, 15]
   ·refine kC 1 [0,1,2,11,12] ?_
    obtain ⟨y41, hy42, h43⟩ := bindS h40
    refine kCG (some 13) (args := [.ptr 0 0, .int .i32 42]) (v := .bool y41.1) (H2 := [.box [lsv (encI .i32) 1 x1, .mp 1, .int .i64 y41.2, .int .i64 x3], mQ x4 x5 x6 x7, .box [.nl, .nl, .nl, .nl, .bool x8, .int .i64 x9, .int .i64 x10, .int .i64 x11, .int .i64 x12, .int .i64 x13, .int .i64 x14, .int .i64 x15, .int .i64 x16, .int .i64 x17, .bool x18, .int .i32 x19, .int .i64 x20]]) [0, 1] (pat_reader__eat_s0_ok hy42) ?_
    refine kC 2 [0,1,2,15] ?_
    refine kE ?_
    obtain rfl := oi h43
    exact kN [0, 1, 2, 15]
  ·refine kBJ 15 h37 (fun h45 => ?_) (fun h46 => ?_)
   ·refine kT ?_
    refine kX ?_
    obtain rfl := oi h45
    have h47 := joinX_inr h25
    refine PJ.cutXr (fun e => nomatch e) ?_
    cases h47
   ·refine kF ?_
    refine kK ?_
    obtain rfl := oi h46
    exact kXl [0, 1, 2]
 ·subst hs
  have h26 := joinX_inl h25
  obtain ⟨y57, hy58, h59⟩ := bindS h26
  refine K.cutX (by kernel_rfl) (fun (s56 : Unit) => ([(0, .ptr 0 0), (1, .ptr 2 0), (2, .int .i64 x0)], [.box [lsv (encI .i32) 1 x1, .mp 1, .int .i64 s22, .int .i64 x3], mQ x4 x5 x6 x7, .box [.nl, .nl, .nl, .nl, .bool x8, .int .i64 x9, .int .i64 x10, .int .i64 x11, .int .i64 x12, .int .i64 x13, .int .i64 x14, .int .i64 x15, .int .i64 x16, .int .i64 x17, .bool x18, .int .i32 x19, .int .i64 x20]])) y57 ?_ (fun s56 hs => ?_)
  ·refine kS ?_
   refine J.keep [0, 1, 2] (L2 := [(0, .ptr 0 0), (1, .ptr 2 0), (2, .int .i64 x0)]) (by kernel_rfl) ?_
   refine K.draw (by kernel_rfl) (by kernel_rfl) (by kernel_rfl) (H2 := [.box [lsv (encI .i32) 1 x1, .mp 1, .int .i64 s22, .int .i64 x3], mQ x4 x5 x6 x7, .box [.nl, .nl, .nl, .nl, .bool x8, .int .i64 x9, .int .i64 x10, .int .i64 x11, .int .i64 x12, .int .i64 x13, .int .i64 x14, .int .i64 x15, .int .i64 x16, .int .i64 x17, .bool x18, .int .i32 x19, .int .i64 x20]]) (by kernel_rfl) (n := 3) (by kernel_rfl) ?_
   refine kD 10 ?_
   refine kEN ?_
   refine kBJ 25 hy58 (fun h62 => ?_) (fun h63 => ?_)
   ·refine kT ?_
    refine kR ?_
    refine kC 5 [0,1,2,26,30] ?_
    obtain ⟨y64, hy65, h66⟩ := bindS h62
    refine RJ.callP (d := (some 31)) (f := 65) (args := [.ptr 0 0, .int .i64 s22]) (args0 := [.ptr 0 0, .int .i64 s22]) (H0 := [.box [lsv (encI .i32) 1 x1, .mp 1, .int .i64 s22, .int .i64 x3], mQ x4 x5 x6 x7]) (H0' := [.box [.undef, .mp 1, .int .i64 s22, .int .i64 s22], mQ x4 x5 x6 x7]) (H2 := [.box [.undef, .mp 1, .int .i64 s22, .int .i64 s22], mQ x4 x5 x6 x7, .box [.nl, .nl, .nl, .nl, .bool x8, .int .i64 x9, .int .i64 x10, .int .i64 x11, .int .i64 x12, .int .i64 x13, .int .i64 x14, .int .i64 x15, .int .i64 x16, .int .i64 x17, .bool x18, .int .i32 x19, .int .i64 x20]]) [0, 1] (by kernel_rfl) (by kernel_rfl) (by kernel_rfl) (by kernel_rfl) (by decide) (by kernel_rfl) (by kernel_rfl) (by kernel_rfl) (.cons (Le.refl _) (.cons (Le.refl _) .nil)) (pat_reader__fail_s0_ok0 hy65) (by kernel_rfl) (by kernel_rfl) ?_
    obtain rfl := oi h66
    have h68 := joinX_inr h59
    refine PP.cutXr ?_
    obtain rfl := Sum.inr.inj (Option.some.inj h68)
    refine PP.wk (Wk.undefs 2 [true, true, true, true, false, false, false, false, false, false, false, false, false, false, false, false, false] (cs := [.nl, .nl, .nl, .nl, .bool x8, .int .i64 x9, .int .i64 x10, .int .i64 x11, .int .i64 x12, .int .i64 x13, .int .i64 x14, .int .i64 x15, .int .i64 x16, .int .i64 x17, .bool x18, .int .i32 x19, .int .i64 x20]) (by kernel_rfl)) ?_
    exact K.panV (H0 := [.box [lsv (encI .i32) 1 x1, .mp 1, .int .i64 x2, .int .i64 x3], mQ x4 x5 x6 x7, .box [.nl, .nl, .nl, .nl, .bool x8, .int .i64 x9, .int .i64 x10, .int .i64 x11, .int .i64 x12, .int .i64 x13, .int .i64 x14, .int .i64 x15, .int .i64 x16, .int .i64 x17, .bool x18, .int .i32 x19, .int .i64 x20]]) (H' := [.box [.undef, .mp 1, .int .i64 s22, .int .i64 s22], mQ x4 x5 x6 x7, .box [.undef, .undef, .undef, .undef, .bool x8, .int .i64 x9, .int .i64 x10, .int .i64 x11, .int .i64 x12, .int .i64 x13, .int .i64 x14, .int .i64 x15, .int .i64 x16, .int .i64 x17, .bool x18, .int .i32 x19, .int .i64 x20]]) [0, 1, 2] hFH hFD (by kernel_rfl) (by kernel_rfl) (by decide) (by kernel_rfl) (by kernel_rfl) (by kernel_rfl)
   ·refine kF ?_
    refine kK ?_
    obtain rfl := oi h63
    exact kXl [0, 1, 2]
  ·subst hs
   have h60 := joinX_inl h59
   refine kS ?_
   refine J.keep [0, 1, 2] (L2 := [(0, .ptr 0 0), (1, .ptr 2 0), (2, .int .i64 x0)]) (by kernel_rfl) ?_
   refine K.draw (by kernel_rfl) (by kernel_rfl) (by kernel_rfl) (H2 := [.box [lsv (encI .i32) 1 x1, .mp 1, .int .i64 s22, .int .i64 x3], mQ x4 x5 x6 x7, .box [.nl, .nl, .nl, .nl, .bool x8, .int .i64 x9, .int .i64 x10, .int .i64 x11, .int .i64 x12, .int .i64 x13, .int .i64 x14, .int .i64 x15, .int .i64 x16, .int .i64 x17, .bool x18, .int .i32 x19, .int .i64 x20]]) (by kernel_rfl) (n := 3) (by kernel_rfl) ?_
   refine kD 10 ?_
   obtain ⟨hm, h69⟩ := asrt h60
   refine kJ 42 (tr2 := [([], []), ([], []), ([], []), ([], []), ([], []), ([0, 1], []), ([], []), ([], []), ([], []), ([0, 1], []), ([], [])]) (encI_len .i32) hm ?_
   refine kD 8 ?_
   refine kEN ?_
   refine kR ?_
   refine kC 8 [] ?_
   refine kE ?_
   cases h69
def pat_reader__twice_s0 (x0 : List Int) (x1 : Int) (x2 : Int) (x3 : Int) (x4 : Int) (x5 : Int) (x6 : Int) : Option (Bool × Int) :=
 (Option.bind (Option.bind (Option.bind (pat_reader__is_s0 39 0 x0 x1 x2 x3 x4 x5 x6) fun y47 => (bif (!y47) then (some true) else (Option.bind (pat_reader__is_s0 39 1 x0 x1 x2 x3 x4 x5 x6) fun y53 => (some (!y53))))) fun (s42 : Bool) => (bif s42 then (some (.inr (false, x1))) else (some (.inl ())))) (joinX fun (s28 : Unit) => (some (true, (IntKind.wrap .i64 (x1 + 2))))))
theorem pat_reader__twice_s0_ok {x0 : List Int} {x1 : Int} {x2 : Int} {x3 : Int} {x4 : Int} {x5 : Int} {x6 : Int} {r : Bool × Int} (h : pat_reader__twice_s0 x0 x1 x2 x3 x4 x5 x6 = some r) : SC Try.prog 76 [.ptr 0 0] [.box [lsv (encI .i32) 1 x0, .mp 1, .int .i64 x1, .int .i64 x2], mQ x3 x4 x5 x6] (.bool r.1) [.box [lsv (encI .i32) 1 x0, .mp 1, .int .i64 r.2, .int .i64 x2], mQ x3 x4 x5 x6] := by
 refine kFn (fn := Try.f76) (fun F hFn hFH hFD => ?_)
 unfold pat_reader__twice_s0 at h
 refine kSR ?_
 refine kC 1 [0,2] ?_
 refine kEN ?_
 obtain ⟨y29, hy30, h31⟩ := bindS h
 refine K.cutX (by kernel_rfl) (fun (s28 : Unit) => ([(0, .ptr 0 0), (2, .bool false)], [.box [lsv (encI .i32) 1 x0, .mp 1, .int .i64 x1, .int .i64 x2], mQ x3 x4 x5 x6])) y29 ?_ (fun s28 hs => ?_)
 ·obtain ⟨s42, hy44, h46⟩ := bindS hy30
  refine K.cutN (by kernel_rfl) (fun (s42 : Bool) => ([(0, .ptr 0 0), (2, .bool false), (10, .bool s42)], [.box [lsv (encI .i32) 1 x0, .mp 1, .int .i64 x1, .int .i64 x2], mQ x3 x4 x5 x6])) s42 ?_ ?_
  ·refine kR ?_
   refine kC 1 [0,2,3] ?_
   obtain ⟨y47, hy48, h49⟩ := bindS hy44
   refine kCG (some 4) (args := [.ptr 0 0, .int .i32 39, .int .i64 0]) (v := .bool y47) (H2 := [.box [lsv (encI .i32) 1 x0, .mp 1, .int .i64 x1, .int .i64 x2], mQ x3 x4 x5 x6]) [0, 1] (pat_reader__is_s0_ok hy48) ?_
   refine kC 2 [0,2,6] ?_
   refine kB 6 h49 (fun h51 => ?_) (fun h52 => ?_)
   ·refine kC 4 [0,2,10] ?_
    refine kE ?_
    obtain rfl := oi h51
    exact kN [0, 2, 10]
   ·refine kC 1 [0,2,6,7] ?_
    obtain ⟨y53, hy54, h55⟩ := bindS h52
    refine kCG (some 8) (args := [.ptr 0 0, .int .i32 39, .int .i64 1]) (v := .bool y53) (H2 := [.box [lsv (encI .i32) 1 x0, .mp 1, .int .i64 x1, .int .i64 x2], mQ x3 x4 x5 x6]) [0, 1] (pat_reader__is_s0_ok hy54) ?_
    refine kC 2 [0,2,10] ?_
    refine kE ?_
    obtain rfl := oi h55
    exact kN [0, 2, 10]
  ·refine kBJ 10 h46 (fun h57 => ?_) (fun h58 => ?_)
   ·refine kT ?_
    refine kSR ?_
    refine kC 1 [0,2] ?_
    refine kEN ?_
    refine kX ?_
    obtain rfl := oi h57
    have h59 := joinX_inr h31
    refine PJ.cutXr (fun e => nomatch e) ?_
    obtain rfl := oi h59
    exact kV [0, 1] hFn hFH hFD (v1 := .bool false)
   ·refine kF ?_
    refine kK ?_
    obtain rfl := oi h58
    exact kXl [0, 2]
 ·subst hs
  have h32 := joinX_inl h31
  refine kSR ?_
  refine kC 8 [2] ?_
  refine kEN ?_
  refine kSR ?_
  refine kC 1 [2] ?_
  refine kEN ?_
  refine kX ?_
  obtain rfl := oi h32
  exact kV [0, 1] hFn hFH hFD (v1 := .bool true)
def pat_reader__quoted_s0 (x0 : List Int) (x1 : Int) (x2 : Int) (x3 : Int) (x4 : Int) (x5 : Int) (x6 : Int) (x7 : List St33) : Option ((Int × (List St33)) ⊕ Int) :=
 (Option.bind (pat_reader__twice_s0 x0 x1 x2 x3 x4 x5 x6) fun y1 => (bif y1.1 then (bif room (x7.length + ([(⟨0, 39⟩ : St33)] : List St33).length) then (some (.inl (y1.2, (x7 ++ ([(⟨0, 39⟩ : St33)] : List St33))))) else none) else (Option.bind (loopN (fun (s85 : Int × (List St33)) => (bif (decide (s85.1 < (x0.length : Int))) then (Option.bind (pat_reader__twice_s0 x0 s85.1 x2 x3 x4 x5 x6) fun y137 => (bif y137.1 then (bif room (s85.2.length + ([(⟨0, 39⟩ : St33)] : List St33).length) then (some (.inl (y137.2, (s85.2 ++ ([(⟨0, 39⟩ : St33)] : List St33))))) else none) else (Option.bind (pat_reader__eat_s0 39 x0 y137.2 x2 x3 x4 x5 x6) fun y144 => (bif y144.1 then (some (.inr (.inr (.inl (y144.2, s85.2))))) else (bif inR y144.2 x0.length then (bif room (s85.2.length + (([(⟨0, (nth x0 y144.2)⟩ : St33)] : List St33)).length) then (some (.inl ((IntKind.wrap .i64 (y144.2 + 1)), (s85.2 ++ (([(⟨0, (nth x0 y144.2)⟩ : St33)] : List St33)))))) else none) else none))))) else (some (.inr (.inl s85.1))))) big ((IntKind.wrap .i64 (y1.2 + 1)), x7)) (joinX fun (s80 : Int) => (Option.bind (pat_reader__fail_s0 x1 x0 s80 x2 x3 x4 x5 x6) fun y157 => (some (.inr s80)))))))
theorem pat_reader__quoted_s0_ok0 {x0 : List Int} {x1 : Int} {x2 : Int} {x3 : Int} {x4 : Int} {x5 : Int} {x6 : Int} {x7 : List St33} {r : Int × (List St33)} (h : pat_reader__quoted_s0 x0 x1 x2 x3 x4 x5 x6 x7 = some (.inl r)) : SC Try.prog 72 [.ptr 0 0, .vc 2] [.box [lsv (encI .i32) 1 x0, .mp 1, .int .i64 x1, .int .i64 x2], mQ x3 x4 x5 x6, vecL encSt33 2 34 x7] (.vc 3) [.box [lsv (encI .i32) 1 x0, .mp 1, .int .i64 r.1, .int .i64 x2], mQ x3 x4 x5 x6, .gone, vecL encSt33 2 34 r.2] := by
 refine kFn (fn := Try.f72) (fun F hFn hFH hFD => ?_)
 unfold pat_reader__quoted_s0 at h
 refine J.wk (Wk.move 2 (n := x7.length) (k := 2) (e := 34) (cs := x7.flatMap encSt33) (by kernel_rfl)) ?_
 refine kSR ?_
 refine kC 1 [0,1,4] ?_
 refine kEN ?_
 refine kSR ?_
 refine kC 5 [0,1,4,5] ?_
 refine kEN ?_
 refine kS ?_
 refine kSR ?_
 refine kC 1 [0,1,4,5,10] ?_
 obtain ⟨y1, hy2, h3⟩ := bindS h
 refine kCG (some 11) (args := [.ptr 0 0]) (v := .bool y1.1) (H2 := [.box [lsv (encI .i32) 1 x0, .mp 1, .int .i64 y1.2, .int .i64 x2], mQ x3 x4 x5 x6, .gone, vecL encSt33 2 34 x7]) [0, 1] (pat_reader__twice_s0_ok hy2) ?_
 refine kEN ?_
 refine kBJ 11 h3 (fun h5 => ?_) (fun h6 => ?_)
 ·refine kT ?_
  refine kSR ?_
  refine kC 3 [0,1,4,5,12,14] ?_
  obtain ⟨hm, h7⟩ := asrt h5
  refine RJ.rel (d := (some 15)) (ef := ⟨.vc 5, [3, 4], [(3, .gone), (5, .vec (x7.length + ([(⟨0, 39⟩ : St33)] : List St33).length) 2 34 (x7.flatMap encSt33 ++ ([(⟨0, 39⟩ : St33)] : List St33).flatMap encSt33))]⟩) (ef' := ⟨.vc 5, [3, 4], [(3, .gone), (5, vecL encSt33 2 34 (x7 ++ ([(⟨0, 39⟩ : St33)] : List St33)))]⟩) (c := room (x7.length + ([(⟨0, 39⟩ : St33)] : List St33).length)) (tr2 := []) (H2 := [.box [lsv (encI .i32) 1 x0, .mp 1, .int .i64 y1.2, .int .i64 x2], mQ x3 x4 x5 x6, .gone, .gone, vecL encSt33 2 34 ([(⟨0, 39⟩ : St33)] : List St33), vecL encSt33 2 34 ((x7 ++ ([(⟨0, 39⟩ : St33)] : List St33)))]) (by kernel_rfl) hm (fun hc => N.app) (by kernel_rfl) ?_
  refine kC 1 [0,1,4,5] ?_
  refine kEN ?_
  refine kX ?_
  refine PJ.passRet ?_
  obtain rfl := Sum.inl.inj (Option.some.inj h7)
  exact kV [0, 1, 2, 5] hFn hFH hFD (v1 := .vc 5)
 ·refine kF ?_
  refine kK ?_
  refine PJ.next ?_
  refine kSR ?_
  refine kC 8 [0,1,4,5] ?_
  refine kEN ?_
  obtain ⟨y81, hy82, h83⟩ := bindS h6
  refine K.cutX (by kernel_rfl) (fun (s80 : Int) => ([(0, .ptr 0 0), (4, .nl), (5, .int .i64 x1)], [.box [lsv (encI .i32) 1 x0, .mp 1, .int .i64 s80, .int .i64 x2], mQ x3 x4 x5 x6, .gone])) y81 ?_ (fun s80 hs => ?_)
  ·refine kb 0 ?_
   refine kl (fun (s85 : Int × (List St33)) => ([(0, .ptr 0 0), (1, .vc 3), (4, .nl), (5, .int .i64 x1)], [.box [lsv (encI .i32) 1 x0, .mp 1, .int .i64 s85.1, .int .i64 x2], mQ x3 x4 x5 x6, .gone, vecL encSt33 2 34 s85.2])) hy82 [0, 1, 4, 5] (fun s85 x133 hs132 => ?_)
   refine kS ?_
   refine kS ?_
   refine J.keep [0, 1, 4, 5] (L2 := [(0, .ptr 0 0), (1, .vc 3), (4, .nl), (5, .int .i64 x1)]) (by kernel_rfl) ?_
   refine K.draw (by kernel_rfl) (by kernel_rfl) (by kernel_rfl) (H2 := [.box [lsv (encI .i32) 1 x0, .mp 1, .int .i64 s85.1, .int .i64 x2], mQ x3 x4 x5 x6, .gone, vecL encSt33 2 34 s85.2]) (by kernel_rfl) (n := 4) (by kernel_rfl) ?_
   refine kD 10 ?_
   refine kEN ?_
   refine kBJ 32 hs132 (fun h135 => ?_) (fun h136 => ?_)
   ·refine kT ?_
    refine kK ?_
    refine PJ.next ?_
    refine kb 1 ?_
    refine kb 2 ?_
    refine kSR ?_
    refine kC 1 [0,1,4,5,55] ?_
    obtain ⟨y137, hy138, h139⟩ := bindS h135
    refine kCG (some 56) (args := [.ptr 0 0]) (v := .bool y137.1) (H2 := [.box [lsv (encI .i32) 1 x0, .mp 1, .int .i64 y137.2, .int .i64 x2], mQ x3 x4 x5 x6, .gone, vecL encSt33 2 34 s85.2]) [0, 1] (pat_reader__twice_s0_ok hy138) ?_
    refine kC 1 [0,1,4,5,54] ?_
    refine kEN ?_
    refine kBJ 54 h139 (fun h141 => ?_) (fun h142 => ?_)
    ·refine kT ?_
     refine kR ?_
     refine kC 3 [0,1,4,5,57,59] ?_
     obtain ⟨hm, h143⟩ := asrt h141
     refine RJ.rel (d := (some 60)) (ef := ⟨.vc 5, [3, 4], [(3, .gone), (5, .vec (s85.2.length + ([(⟨0, 39⟩ : St33)] : List St33).length) 2 34 (s85.2.flatMap encSt33 ++ ([(⟨0, 39⟩ : St33)] : List St33).flatMap encSt33))]⟩) (ef' := ⟨.vc 5, [3, 4], [(3, .gone), (5, vecL encSt33 2 34 (s85.2 ++ ([(⟨0, 39⟩ : St33)] : List St33)))]⟩) (c := room (s85.2.length + ([(⟨0, 39⟩ : St33)] : List St33).length)) (tr2 := []) (H2 := [.box [lsv (encI .i32) 1 x0, .mp 1, .int .i64 y137.2, .int .i64 x2], mQ x3 x4 x5 x6, .gone, .gone, vecL encSt33 2 34 ([(⟨0, 39⟩ : St33)] : List St33), vecL encSt33 2 34 ((s85.2 ++ ([(⟨0, 39⟩ : St33)] : List St33)))]) (by kernel_rfl) hm (fun hc => N.app) (by kernel_rfl) ?_
     refine kC 1 [0,1,4,5] ?_
     refine kE ?_
     refine PJ.blockNormal ?_
     refine PJ.blockNormal ?_
     obtain rfl := oi h143
     refine kW (L2 := [(0, .ptr 0 0), (1, .vc 3), (4, .nl), (5, .int .i64 x1)]) (H2 := [.box [lsv (encI .i32) 1 x0, .mp 1, .int .i64 y137.2, .int .i64 x2], mQ x3 x4 x5 x6, .gone, vecL encSt33 2 34 ((s85.2 ++ ([(⟨0, 39⟩ : St33)] : List St33)))]) hFH hFD [0, 1, 2, 5] ?_
     exact kLN [0, 1, 4, 5]
    ·refine kF ?_
     refine kSR ?_
     refine kC 1 [0,1,4,5,62] ?_
     obtain ⟨y144, hy145, h146⟩ := bindS h142
     refine kCG (some 63) (args := [.ptr 0 0, .int .i32 39]) (v := .bool y144.1) (H2 := [.box [lsv (encI .i32) 1 x0, .mp 1, .int .i64 y144.2, .int .i64 x2], mQ x3 x4 x5 x6, .gone, vecL encSt33 2 34 s85.2]) [0, 1] (pat_reader__eat_s0_ok hy145) ?_
     refine kC 1 [0,1,4,5,61] ?_
     refine kEN ?_
     refine kBJ 61 h146 (fun h148 => ?_) (fun h149 => ?_)
     ·refine kT ?_
      refine kSR ?_
      refine kC 2 [0,1,4,5] ?_
      refine kEN ?_
      refine kX ?_
      refine PJ.blockRet ?_
      refine PJ.blockRet ?_
      obtain rfl := oi h148
      refine PJ.loopOut (fun e => nomatch e) (fun he152 => ?_)
      have h150 := congrArg some he152
      refine PJ.blockRet ?_
      obtain rfl := oi h150
      have h151 := joinX_inr h83
      refine PJ.cutXr (fun e => nomatch e) ?_
      obtain rfl := Sum.inl.inj (Option.some.inj h151)
      exact kV [0, 1, 2, 3] hFn hFH hFD (v1 := .vc 3)
     ·refine kF ?_
      refine kS ?_
      refine J.keep [0, 1, 4, 5] (L2 := [(0, .ptr 0 0), (1, .vc 3), (4, .nl), (5, .int .i64 x1)]) (by kernel_rfl) ?_
      refine K.draw (by kernel_rfl) (by kernel_rfl) (by kernel_rfl) (H2 := [.box [lsv (encI .i32) 1 x0, .mp 1, .int .i64 y144.2, .int .i64 x2], mQ x3 x4 x5 x6, .gone, vecL encSt33 2 34 s85.2, .res, .res]) (by kernel_rfl) (n := 4) (by kernel_rfl) ?_
      refine kD 9 ?_
      obtain ⟨hm, h153⟩ := asrt h149
      refine kJ 42 (tr2 := [([], []), ([], []), ([], []), ([], []), ([0, 1], []), ([], []), ([], []), ([], []), ([0, 1], []), ([], [])]) (encI_len .i32) hm ?_
      refine kD 3 ?_
      obtain ⟨hm, h154⟩ := asrt h153
      refine RJ.rel (d := (some 46)) (ef := ⟨.vc 5, [3, 4], [(3, .gone), (5, .vec (s85.2.length + (([(⟨0, (nth x0 y144.2)⟩ : St33)] : List St33)).length) 2 34 (s85.2.flatMap encSt33 ++ (([(⟨0, (nth x0 y144.2)⟩ : St33)] : List St33)).flatMap encSt33))]⟩) (ef' := ⟨.vc 5, [3, 4], [(3, .gone), (5, vecL encSt33 2 34 (s85.2 ++ (([(⟨0, (nth x0 y144.2)⟩ : St33)] : List St33))))]⟩) (c := room (s85.2.length + (([(⟨0, (nth x0 y144.2)⟩ : St33)] : List St33)).length)) (tr2 := [([], []), ([], []), ([], []), ([], []), ([0, 1], []), ([], []), ([], []), ([], []), ([0, 1], []), ([], []), ([], []), ([], []), ([], [8, 9, 8, 9]), ([6, 7, 8, 9], [6, 7, 10, 11, 10, 11])]) (H2 := [.box [lsv (encI .i32) 1 x0, .mp 1, .int .i64 y144.2, .int .i64 x2], mQ x3 x4 x5 x6, .gone, .gone, vecL encSt33 2 34 (([(⟨0, (nth x0 y144.2)⟩ : St33)] : List St33)), vecL encSt33 2 34 ((s85.2 ++ (([(⟨0, (nth x0 y144.2)⟩ : St33)] : List St33))))]) (by kernel_rfl) hm (fun hc => N.app) (by kernel_rfl) ?_
      refine kD 1 ?_
      refine kEN ?_
      refine kR ?_
      refine kC 8 [0,1,4,5] ?_
      refine kE ?_
      refine PJ.blockNormal ?_
      refine PJ.blockNormal ?_
      obtain rfl := oi h154
      refine kW (L2 := [(0, .ptr 0 0), (1, .vc 3), (4, .nl), (5, .int .i64 x1)]) (H2 := [.box [lsv (encI .i32) 1 x0, .mp 1, .int .i64 (IntKind.wrap .i64 (y144.2 + 1)), .int .i64 x2], mQ x3 x4 x5 x6, .gone, vecL encSt33 2 34 ((s85.2 ++ (([(⟨0, (nth x0 y144.2)⟩ : St33)] : List St33))))]) hFH hFD [0, 1, 2, 5] ?_
      exact kLN [0, 1, 4, 5]
   ·refine kF ?_
    refine K.exit 0 (by kernel_rfl) ?_
    refine PJ.passExit ?_
    obtain rfl := oi h136
    refine PJ.loopOut (fun e => nomatch e) (fun he156 => ?_)
    have h155 := congrArg some he156
    refine PJ.blockOut ?_
    obtain rfl := oi h155
    refine kW (L2 := [(0, .ptr 0 0), (4, .nl), (5, .int .i64 x1)]) (H2 := [.box [lsv (encI .i32) 1 x0, .mp 1, .int .i64 s85.1, .int .i64 x2], mQ x3 x4 x5 x6, .gone]) hFH hFD [0, 1, 2] ?_
    exact kXl [0, 4, 5]
  ·subst hs
   have h84 := joinX_inl h83
   refine kSR ?_
   refine kC 2 [4,65,66] ?_
   obtain ⟨y157, hy158, h159⟩ := bindS h84
   refine RJ.callP (d := (some 67)) (f := 65) (args := [.ptr 0 0, .int .i64 x1]) (args0 := [.ptr 0 0, .int .i64 x1]) (H0 := [.box [lsv (encI .i32) 1 x0, .mp 1, .int .i64 s80, .int .i64 x2], mQ x3 x4 x5 x6]) (H0' := [.box [.undef, .mp 1, .int .i64 s80, .int .i64 x1], mQ x3 x4 x5 x6]) (H2 := [.box [.undef, .mp 1, .int .i64 s80, .int .i64 x1], mQ x3 x4 x5 x6, .gone]) [0, 1] (by kernel_rfl) (by kernel_rfl) (by kernel_rfl) (by kernel_rfl) (by decide) (by kernel_rfl) (by kernel_rfl) (by kernel_rfl) (.cons (Le.refl _) (.cons (Le.refl _) .nil)) (pat_reader__fail_s0_ok0 hy158) (by kernel_rfl) (by kernel_rfl) ?_
   refine PP.next ?_
   cases h159
theorem pat_reader__quoted_s0_ok1 {x0 : List Int} {x1 : Int} {x2 : Int} {x3 : Int} {x4 : Int} {x5 : Int} {x6 : Int} {x7 : List St33} {r : Int} (h : pat_reader__quoted_s0 x0 x1 x2 x3 x4 x5 x6 x7 = some (.inr r)) : SP Try.prog 72 [.ptr 0 0, .vc 2] [.box [lsv (encI .i32) 1 x0, .mp 1, .int .i64 x1, .int .i64 x2], mQ x3 x4 x5 x6, vecL encSt33 2 34 x7] [.box [.undef, .mp 1, .int .i64 r, .int .i64 x1], mQ x3 x4 x5 x6, .gone] := by
 refine kFnP (fn := Try.f72) (fun F hFn hFH hFD => ?_)
 unfold pat_reader__quoted_s0 at h
 refine J.wk (Wk.move 2 (n := x7.length) (k := 2) (e := 34) (cs := x7.flatMap encSt33) (by kernel_rfl)) ?_
 refine kSR ?_
 refine kC 1 [0,1,4] ?_
 refine kEN ?_
 refine kSR ?_
 refine kC 5 [0,1,4,5] ?_
 refine kEN ?_
 refine kS ?_
 refine kSR ?_
 refine kC 1 [0,1,4,5,10] ?_
 obtain ⟨y1, hy2, h3⟩ := bindS h
 refine kCG (some 11) (args := [.ptr 0 0]) (v := .bool y1.1) (H2 := [.box [lsv (encI .i32) 1 x0, .mp 1, .int .i64 y1.2, .int .i64 x2], mQ x3 x4 x5 x6, .gone, vecL encSt33 2 34 x7]) [0, 1] (pat_reader__twice_s0_ok hy2) ?_
 refine kEN ?_
 refine kBJ 11 h3 (fun h5 => ?_) (fun h6 => ?_)
 ·refine kT ?_
  refine kSR ?_
  refine kC 3 [0,1,4,5,12,14] ?_
  obtain ⟨hm, h7⟩ := asrt h5
  refine RJ.rel (d := (some 15)) (ef := ⟨.vc 5, [3, 4], [(3, .gone), (5, .vec (x7.length + ([(⟨0, 39⟩ : St33)] : List St33).length) 2 34 (x7.flatMap encSt33 ++ ([(⟨0, 39⟩ : St33)] : List St33).flatMap encSt33))]⟩) (ef' := ⟨.vc 5, [3, 4], [(3, .gone), (5, vecL encSt33 2 34 (x7 ++ ([(⟨0, 39⟩ : St33)] : List St33)))]⟩) (c := room (x7.length + ([(⟨0, 39⟩ : St33)] : List St33).length)) (tr2 := []) (H2 := [.box [lsv (encI .i32) 1 x0, .mp 1, .int .i64 y1.2, .int .i64 x2], mQ x3 x4 x5 x6, .gone, .gone, vecL encSt33 2 34 ([(⟨0, 39⟩ : St33)] : List St33), vecL encSt33 2 34 ((x7 ++ ([(⟨0, 39⟩ : St33)] : List St33)))]) (by kernel_rfl) hm (fun hc => N.app) (by kernel_rfl) ?_
  refine kC 1 [0,1,4,5] ?_
  refine kEN ?_
  refine kX ?_
  refine PJ.passRet ?_
  cases h7
 ·refine kF ?_
  refine kK ?_
  refine PJ.next ?_
  refine kSR ?_
  refine kC 8 [0,1,4,5] ?_
  refine kEN ?_
  obtain ⟨y81, hy82, h83⟩ := bindS h6
  refine K.cutX (by kernel_rfl) (fun (s80 : Int) => ([(0, .ptr 0 0), (4, .nl), (5, .int .i64 x1)], [.box [lsv (encI .i32) 1 x0, .mp 1, .int .i64 s80, .int .i64 x2], mQ x3 x4 x5 x6, .gone])) y81 ?_ (fun s80 hs => ?_)
  ·refine kb 0 ?_
   refine kl (fun (s85 : Int × (List St33)) => ([(0, .ptr 0 0), (1, .vc 3), (4, .nl), (5, .int .i64 x1)], [.box [lsv (encI .i32) 1 x0, .mp 1, .int .i64 s85.1, .int .i64 x2], mQ x3 x4 x5 x6, .gone, vecL encSt33 2 34 s85.2])) hy82 [0, 1, 4, 5] (fun s85 x133 hs132 => ?_)
   refine kS ?_
   refine kS ?_
   refine J.keep [0, 1, 4, 5] (L2 := [(0, .ptr 0 0), (1, .vc 3), (4, .nl), (5, .int .i64 x1)]) (by kernel_rfl) ?_
   refine K.draw (by kernel_rfl) (by kernel_rfl) (by kernel_rfl) (H2 := [.box [lsv (encI .i32) 1 x0, .mp 1, .int .i64 s85.1, .int .i64 x2], mQ x3 x4 x5 x6, .gone, vecL encSt33 2 34 s85.2]) (by kernel_rfl) (n := 4) (by kernel_rfl) ?_
   refine kD 10 ?_
   refine kEN ?_
   refine kBJ 32 hs132 (fun h135 => ?_) (fun h136 => ?_)
   ·refine kT ?_
    refine kK ?_
    refine PJ.next ?_
    refine kb 1 ?_
    refine kb 2 ?_
    refine kSR ?_
    refine kC 1 [0,1,4,5,55] ?_
    obtain ⟨y137, hy138, h139⟩ := bindS h135
    refine kCG (some 56) (args := [.ptr 0 0]) (v := .bool y137.1) (H2 := [.box [lsv (encI .i32) 1 x0, .mp 1, .int .i64 y137.2, .int .i64 x2], mQ x3 x4 x5 x6, .gone, vecL encSt33 2 34 s85.2]) [0, 1] (pat_reader__twice_s0_ok hy138) ?_
    refine kC 1 [0,1,4,5,54] ?_
    refine kEN ?_
    refine kBJ 54 h139 (fun h141 => ?_) (fun h142 => ?_)
    ·refine kT ?_
     refine kR ?_
     refine kC 3 [0,1,4,5,57,59] ?_
     obtain ⟨hm, h143⟩ := asrt h141
     refine RJ.rel (d := (some 60)) (ef := ⟨.vc 5, [3, 4], [(3, .gone), (5, .vec (s85.2.length + ([(⟨0, 39⟩ : St33)] : List St33).length) 2 34 (s85.2.flatMap encSt33 ++ ([(⟨0, 39⟩ : St33)] : List St33).flatMap encSt33))]⟩) (ef' := ⟨.vc 5, [3, 4], [(3, .gone), (5, vecL encSt33 2 34 (s85.2 ++ ([(⟨0, 39⟩ : St33)] : List St33)))]⟩) (c := room (s85.2.length + ([(⟨0, 39⟩ : St33)] : List St33).length)) (tr2 := []) (H2 := [.box [lsv (encI .i32) 1 x0, .mp 1, .int .i64 y137.2, .int .i64 x2], mQ x3 x4 x5 x6, .gone, .gone, vecL encSt33 2 34 ([(⟨0, 39⟩ : St33)] : List St33), vecL encSt33 2 34 ((s85.2 ++ ([(⟨0, 39⟩ : St33)] : List St33)))]) (by kernel_rfl) hm (fun hc => N.app) (by kernel_rfl) ?_
     refine kC 1 [0,1,4,5] ?_
     refine kE ?_
     refine PJ.blockNormal ?_
     refine PJ.blockNormal ?_
     obtain rfl := oi h143
     refine kW (L2 := [(0, .ptr 0 0), (1, .vc 3), (4, .nl), (5, .int .i64 x1)]) (H2 := [.box [lsv (encI .i32) 1 x0, .mp 1, .int .i64 y137.2, .int .i64 x2], mQ x3 x4 x5 x6, .gone, vecL encSt33 2 34 ((s85.2 ++ ([(⟨0, 39⟩ : St33)] : List St33)))]) hFH hFD [0, 1, 2, 5] ?_
     exact kLN [0, 1, 4, 5]
    ·refine kF ?_
     refine kSR ?_
     refine kC 1 [0,1,4,5,62] ?_
     obtain ⟨y144, hy145, h146⟩ := bindS h142
     refine kCG (some 63) (args := [.ptr 0 0, .int .i32 39]) (v := .bool y144.1) (H2 := [.box [lsv (encI .i32) 1 x0, .mp 1, .int .i64 y144.2, .int .i64 x2], mQ x3 x4 x5 x6, .gone, vecL encSt33 2 34 s85.2]) [0, 1] (pat_reader__eat_s0_ok hy145) ?_
     refine kC 1 [0,1,4,5,61] ?_
     refine kEN ?_
     refine kBJ 61 h146 (fun h148 => ?_) (fun h149 => ?_)
     ·refine kT ?_
      refine kSR ?_
      refine kC 2 [0,1,4,5] ?_
      refine kEN ?_
      refine kX ?_
      refine PJ.blockRet ?_
      refine PJ.blockRet ?_
      obtain rfl := oi h148
      refine PJ.loopOut (fun e => nomatch e) (fun he152 => ?_)
      have h150 := congrArg some he152
      refine PJ.blockRet ?_
      obtain rfl := oi h150
      have h151 := joinX_inr h83
      refine PJ.cutXr (fun e => nomatch e) ?_
      cases h151
     ·refine kF ?_
      refine kS ?_
      refine J.keep [0, 1, 4, 5] (L2 := [(0, .ptr 0 0), (1, .vc 3), (4, .nl), (5, .int .i64 x1)]) (by kernel_rfl) ?_
      refine K.draw (by kernel_rfl) (by kernel_rfl) (by kernel_rfl) (H2 := [.box [lsv (encI .i32) 1 x0, .mp 1, .int .i64 y144.2, .int .i64 x2], mQ x3 x4 x5 x6, .gone, vecL encSt33 2 34 s85.2, .res, .res]) (by kernel_rfl) (n := 4) (by kernel_rfl) ?_
      refine kD 9 ?_
      obtain ⟨hm, h153⟩ := asrt h149
      refine kJ 42 (tr2 := [([], []), ([], []), ([], []), ([], []), ([0, 1], []), ([], []), ([], []), ([], []), ([0, 1], []), ([], [])]) (encI_len .i32) hm ?_
      refine kD 3 ?_
      obtain ⟨hm, h154⟩ := asrt h153
      refine RJ.rel (d := (some 46)) (ef := ⟨.vc 5, [3, 4], [(3, .gone), (5, .vec (s85.2.length + (([(⟨0, (nth x0 y144.2)⟩ : St33)] : List St33)).length) 2 34 (s85.2.flatMap encSt33 ++ (([(⟨0, (nth x0 y144.2)⟩ : St33)] : List St33)).flatMap encSt33))]⟩) (ef' := ⟨.vc 5, [3, 4], [(3, .gone), (5, vecL encSt33 2 34 (s85.2 ++ (([(⟨0, (nth x0 y144.2)⟩ : St33)] : List St33))))]⟩) (c := room (s85.2.length + (([(⟨0, (nth x0 y144.2)⟩ : St33)] : List St33)).length)) (tr2 := [([], []), ([], []), ([], []), ([], []), ([0, 1], []), ([], []), ([], []), ([], []), ([0, 1], []), ([], []), ([], []), ([], []), ([], [8, 9, 8, 9]), ([6, 7, 8, 9], [6, 7, 10, 11, 10, 11])]) (H2 := [.box [lsv (encI .i32) 1 x0, .mp 1, .int .i64 y144.2, .int .i64 x2], mQ x3 x4 x5 x6, .gone, .gone, vecL encSt33 2 34 (([(⟨0, (nth x0 y144.2)⟩ : St33)] : List St33)), vecL encSt33 2 34 ((s85.2 ++ (([(⟨0, (nth x0 y144.2)⟩ : St33)] : List St33))))]) (by kernel_rfl) hm (fun hc => N.app) (by kernel_rfl) ?_
      refine kD 1 ?_
      refine kEN ?_
      refine kR ?_
      refine kC 8 [0,1,4,5] ?_
      refine kE ?_
      refine PJ.blockNormal ?_
      refine PJ.blockNormal ?_
      obtain rfl := oi h154
      refine kW (L2 := [(0, .ptr 0 0), (1, .vc 3), (4, .nl), (5, .int .i64 x1)]) (H2 := [.box [lsv (encI .i32) 1 x0, .mp 1, .int .i64 (IntKind.wrap .i64 (y144.2 + 1)), .int .i64 x2], mQ x3 x4 x5 x6, .gone, vecL encSt33 2 34 ((s85.2 ++ (([(⟨0, (nth x0 y144.2)⟩ : St33)] : List St33))))]) hFH hFD [0, 1, 2, 5] ?_
      exact kLN [0, 1, 4, 5]
   ·refine kF ?_
    refine K.exit 0 (by kernel_rfl) ?_
    refine PJ.passExit ?_
    obtain rfl := oi h136
    refine PJ.loopOut (fun e => nomatch e) (fun he156 => ?_)
    have h155 := congrArg some he156
    refine PJ.blockOut ?_
    obtain rfl := oi h155
    refine kW (L2 := [(0, .ptr 0 0), (4, .nl), (5, .int .i64 x1)]) (H2 := [.box [lsv (encI .i32) 1 x0, .mp 1, .int .i64 s85.1, .int .i64 x2], mQ x3 x4 x5 x6, .gone]) hFH hFD [0, 1, 2] ?_
    exact kXl [0, 4, 5]
  ·subst hs
   have h84 := joinX_inl h83
   refine kSR ?_
   refine kC 2 [4,65,66] ?_
   obtain ⟨y157, hy158, h159⟩ := bindS h84
   refine RJ.callP (d := (some 67)) (f := 65) (args := [.ptr 0 0, .int .i64 x1]) (args0 := [.ptr 0 0, .int .i64 x1]) (H0 := [.box [lsv (encI .i32) 1 x0, .mp 1, .int .i64 s80, .int .i64 x2], mQ x3 x4 x5 x6]) (H0' := [.box [.undef, .mp 1, .int .i64 s80, .int .i64 x1], mQ x3 x4 x5 x6]) (H2 := [.box [.undef, .mp 1, .int .i64 s80, .int .i64 x1], mQ x3 x4 x5 x6, .gone]) [0, 1] (by kernel_rfl) (by kernel_rfl) (by kernel_rfl) (by kernel_rfl) (by decide) (by kernel_rfl) (by kernel_rfl) (by kernel_rfl) (.cons (Le.refl _) (.cons (Le.refl _) .nil)) (pat_reader__fail_s0_ok0 hy158) (by kernel_rfl) (by kernel_rfl) ?_
   refine PP.next ?_
   obtain rfl := Sum.inr.inj (Option.some.inj h159)
   exact K.panV (H0 := [.box [lsv (encI .i32) 1 x0, .mp 1, .int .i64 x1, .int .i64 x2], mQ x3 x4 x5 x6, vecL encSt33 2 34 x7]) (H' := [.box [.undef, .mp 1, .int .i64 s80, .int .i64 x1], mQ x3 x4 x5 x6, .gone]) [0, 1, 2] hFH hFD (by kernel_rfl) (by kernel_rfl) (by decide) (by kernel_rfl) (by kernel_rfl) (by kernel_rfl)
def pat_special (x0 : Int) : Option (Bool) :=
 (Option.bind (Option.bind (bif (decide (x0 = 35)) then (some true) else (bif (decide (x0 = 64)) then (some true) else (bif (decide (x0 = 44)) then (some true) else (bif (decide (x0 = 46)) then (some true) else (bif (decide (x0 = 59)) then (some true) else (bif (decide (x0 = 42)) then (some true) else (bif (decide (x0 = 37)) then (some true) else (bif (decide (x0 = 45)) then (some true) else (bif (decide (x0 = 43)) then (some true) else (bif (decide (x0 = 39)) then (some true) else (bif (decide (x0 = 69)) then (some true) else (some (decide (x0 = 164)))))))))))))) fun (s114 : Bool) => (bif s114 then (some (.inr true)) else (some (.inl ())))) (joinX fun (s76 : Unit) => (Option.bind (bif (decide (x0 ≥ 48)) then (some (decide (x0 ≤ 57))) else (some false)) fun (s159 : Bool) => (some s159))))
theorem pat_special_ok {x0 : Int} {r : Bool} (h : pat_special x0 = some r) : SC Try.prog 53 [.int .i32 x0] [] (.bool r) [] := by
 refine kFn (fn := Try.f53) (fun F hFn hFH hFD => ?_)
 unfold pat_special at h
 refine kSR ?_
 refine kC 1 [0,2] ?_
 refine kEN ?_
 obtain ⟨y77, hy78, h79⟩ := bindS h
 refine K.cutX (by kernel_rfl) (fun (s76 : Unit) => ([(0, .int .i32 x0), (2, .bool false)], [])) y77 ?_ (fun s76 hs => ?_)
 ·refine kSR ?_
  refine kC 1 [0,2,3] ?_
  refine kEN ?_
  refine kb 0 ?_
  obtain ⟨s114, hy116, h118⟩ := bindS hy78
  refine K.cutN (by kernel_rfl) (fun (s114 : Bool) => ([(0, .int .i32 x0), (2, .bool false), (4, .bool s114)], [])) s114 ?_ ?_
  ·refine kSR ?_
   refine kC 2 [0,2,3,4] ?_
   refine kEN ?_
   refine kBJ 4 hy116 (fun h120 => ?_) (fun h121 => ?_)
   ·refine kT ?_
    refine kK ?_
    obtain rfl := oi h120
    exact kN [0, 2, 4]
   ·refine kF ?_
    refine kSR ?_
    refine kC 2 [0,2,3,4] ?_
    refine kEN ?_
    refine kBJ 4 h121 (fun h123 => ?_) (fun h124 => ?_)
    ·refine kT ?_
     refine kK ?_
     obtain rfl := oi h123
     exact kN [0, 2, 4]
    ·refine kF ?_
     refine kSR ?_
     refine kC 2 [0,2,3,4] ?_
     refine kEN ?_
     refine kBJ 4 h124 (fun h126 => ?_) (fun h127 => ?_)
     ·refine kT ?_
      refine kK ?_
      obtain rfl := oi h126
      exact kN [0, 2, 4]
     ·refine kF ?_
      refine kSR ?_
      refine kC 2 [0,2,3,4] ?_
      refine kEN ?_
      refine kBJ 4 h127 (fun h129 => ?_) (fun h130 => ?_)
      ·refine kT ?_
       refine kK ?_
       obtain rfl := oi h129
       exact kN [0, 2, 4]
      ·refine kF ?_
       refine kSR ?_
       refine kC 2 [0,2,3,4] ?_
       refine kEN ?_
       refine kBJ 4 h130 (fun h132 => ?_) (fun h133 => ?_)
       ·refine kT ?_
        refine kK ?_
        obtain rfl := oi h132
        exact kN [0, 2, 4]
       ·refine kF ?_
        refine kSR ?_
        refine kC 2 [0,2,3,4] ?_
        refine kEN ?_
        refine kBJ 4 h133 (fun h135 => ?_) (fun h136 => ?_)
        ·refine kT ?_
         refine kK ?_
         obtain rfl := oi h135
         exact kN [0, 2, 4]
        ·refine kF ?_
         refine kSR ?_
         refine kC 2 [0,2,3,4] ?_
         refine kEN ?_
         refine kBJ 4 h136 (fun h138 => ?_) (fun h139 => ?_)
         ·refine kT ?_
          refine kK ?_
          obtain rfl := oi h138
          exact kN [0, 2, 4]
         ·refine kF ?_
          refine kSR ?_
          refine kC 2 [0,2,3,4] ?_
          refine kEN ?_
          refine kBJ 4 h139 (fun h141 => ?_) (fun h142 => ?_)
          ·refine kT ?_
           refine kK ?_
           obtain rfl := oi h141
           exact kN [0, 2, 4]
          ·refine kF ?_
           refine kSR ?_
           refine kC 2 [0,2,3,4] ?_
           refine kEN ?_
           refine kBJ 4 h142 (fun h144 => ?_) (fun h145 => ?_)
           ·refine kT ?_
            refine kK ?_
            obtain rfl := oi h144
            exact kN [0, 2, 4]
           ·refine kF ?_
            refine kSR ?_
            refine kC 2 [0,2,3,4] ?_
            refine kEN ?_
            refine kBJ 4 h145 (fun h147 => ?_) (fun h148 => ?_)
            ·refine kT ?_
             refine kK ?_
             obtain rfl := oi h147
             exact kN [0, 2, 4]
            ·refine kF ?_
             refine kSR ?_
             refine kC 2 [0,2,3,4] ?_
             refine kEN ?_
             refine kBJ 4 h148 (fun h150 => ?_) (fun h151 => ?_)
             ·refine kT ?_
              refine kK ?_
              obtain rfl := oi h150
              exact kN [0, 2, 4]
             ·refine kF ?_
              refine kR ?_
              refine kC 2 [0,2,4] ?_
              refine kE ?_
              obtain rfl := oi h151
              exact kN [0, 2, 4]
  ·refine kBJ 4 h118 (fun h153 => ?_) (fun h154 => ?_)
   ·refine kT ?_
    refine kSR ?_
    refine kC 1 [0,2] ?_
    refine kEN ?_
    refine kX ?_
    refine PJ.blockRet ?_
    obtain rfl := oi h153
    have h155 := joinX_inr h79
    refine PJ.cutXr (fun e => nomatch e) ?_
    obtain rfl := oi h155
    exact kZ hFn hFH hFD
   ·refine kF ?_
    refine kK ?_
    refine PJ.blockNormal ?_
    obtain rfl := oi h154
    exact kXl [0, 2]
 ·subst hs
  have h80 := joinX_inl h79
  obtain ⟨s159, hy161, h163⟩ := bindS h80
  refine K.cutN (by kernel_rfl) (fun (s159 : Bool) => ([(2, .bool s159)], [])) s159 ?_ ?_
  ·refine kR ?_
   refine kC 3 [0,2,19] ?_
   refine kB 19 hy161 (fun h165 => ?_) (fun h166 => ?_)
   ·refine kC 4 [2] ?_
    refine kE ?_
    obtain rfl := oi h165
    exact kN [2]
   ·refine kC 4 [2] ?_
    refine kE ?_
    obtain rfl := oi h166
    exact kN [2]
  ·refine kX ?_
   obtain rfl := oi h163
   exact kZ hFn hFH hFD
def pat_reader__affix_s0 (x0 : List Int) (x1 : Int) (x2 : Int) (x3 : Int) (x4 : Int) (x5 : Int) (x6 : Int) : Option ((List St33) × Int ⊕ (Int × Int)) :=
 (Option.bind (loopN (fun (s354 : Int × (List St33)) => (bif (decide (s354.1 < (x0.length : Int))) then (bif inR s354.1 x0.length then (bif (decide ((nth x0 s354.1) = 45)) then (Option.bind (bif room (s354.2.length + ([(⟨x3, 0⟩ : St33)] : List St33).length) then (some ()) else none) fun (s596 : Unit) => (some (.inl ((IntKind.wrap .i64 (s354.1 + 1)), (s354.2 ++ ([(⟨x3, 0⟩ : St33)] : List St33)))))) else (bif (decide ((nth x0 s354.1) = 43)) then (Option.bind (bif room (s354.2.length + ([(⟨x4, 0⟩ : St33)] : List St33).length) then (some ()) else none) fun (s607 : Unit) => (some (.inl ((IntKind.wrap .i64 (s354.1 + 1)), (s354.2 ++ ([(⟨x4, 0⟩ : St33)] : List St33)))))) else (bif (decide ((nth x0 s354.1) = 37)) then (Option.bind (bif room (s354.2.length + ([(⟨x5, 0⟩ : St33)] : List St33).length) then (some ()) else none) fun (s618 : Unit) => (some (.inl ((IntKind.wrap .i64 (s354.1 + 1)), (s354.2 ++ ([(⟨x5, 0⟩ : St33)] : List St33)))))) else (bif (decide ((nth x0 s354.1) = 164)) then (Option.bind (bif room (s354.2.length + ([(⟨x6, 0⟩ : St33)] : List St33).length) then (some ()) else none) fun (s629 : Unit) => (some (.inl ((IntKind.wrap .i64 (s354.1 + 1)), (s354.2 ++ ([(⟨x6, 0⟩ : St33)] : List St33)))))) else (Option.bind (Option.bind (pat_reader__is_s0 39 0 x0 s354.1 x2 x3 x4 x5 x6) fun y670 => (bif y670 then (Option.bind (pat_reader__quoted_s0 x0 s354.1 x2 x3 x4 x5 x6 s354.2) fun y676 => (Sum.elim (fun y679 => (some (.inr (.inl (y679.1, y679.2))))) (fun y680 => (some (.inr (.inr (.inr (.inr (y680, s354.1))))))) y676)) else (Option.bind (pat_special (nth x0 s354.1)) fun y689 => (bif y689 then (some (.inr (.inr (.inr (.inl (s354.2, s354.1)))))) else (bif room (s354.2.length + (([(⟨0, (nth x0 s354.1)⟩ : St33)] : List St33)).length) then (some (.inl ())) else none))))) (joinX fun (s665 : Unit) => (some (.inl ((IntKind.wrap .i64 (s354.1 + 1)), (s354.2 ++ (([(⟨0, (nth x0 s354.1)⟩ : St33)] : List St33)))))))))))) else none) else (some (.inr (.inl (s354.1, s354.2)))))) big (x1, ([] : List St33))) (joinX fun (s349 : Int × (List St33)) => (some (.inl (s349.2, s349.1)))))
theorem pat_reader__affix_s0_ok0 {x0 : List Int} {x1 : Int} {x2 : Int} {x3 : Int} {x4 : Int} {x5 : Int} {x6 : Int} {r : (List St33) × Int} (h : pat_reader__affix_s0 x0 x1 x2 x3 x4 x5 x6 = some (.inl r)) : SC Try.prog 61 [.ptr 0 0] [.box [lsv (encI .i32) 1 x0, .mp 1, .int .i64 x1, .int .i64 x2], mQ x3 x4 x5 x6] (lsv encSt33 2 r.1) [.box [lsv (encI .i32) 1 x0, .mp 1, .int .i64 r.2, .int .i64 x2], mQ x3 x4 x5 x6] := by
 refine kFn (fn := Try.f61) (fun F hFn hFH hFD => ?_)
 unfold pat_reader__affix_s0 at h
 refine kSR ?_
 refine kC 1 [0,2] ?_
 refine kEN ?_
 refine kSR ?_
 refine kC 1 [0,2,3] ?_
 refine kEN ?_
 obtain ⟨y350, hy351, h352⟩ := bindS h
 refine K.cutX (by kernel_rfl) (fun (s349 : Int × (List St33)) => ([(2, .nl), (3, .vc 2)], [.box [lsv (encI .i32) 1 x0, .mp 1, .int .i64 s349.1, .int .i64 x2], mQ x3 x4 x5 x6, vecL encSt33 2 34 s349.2])) y350 ?_ (fun s349 hs => ?_)
 ·refine kb 0 ?_
  refine J.wk (Wk.viv 3 2 34 (by kernel_rfl)) ?_
  refine kl (fun (s354 : Int × (List St33)) => ([(0, .ptr 0 0), (2, .nl), (3, .vc 2)], [.box [lsv (encI .i32) 1 x0, .mp 1, .int .i64 s354.1, .int .i64 x2], mQ x3 x4 x5 x6, vecL encSt33 2 34 s354.2])) hy351 [0, 2, 3] (fun s354 x586 hs585 => ?_)
  refine kS ?_
  refine kS ?_
  refine J.keep [0, 2, 3] (L2 := [(0, .ptr 0 0), (2, .nl), (3, .vc 2)]) (by kernel_rfl) ?_
  refine K.draw (by kernel_rfl) (by kernel_rfl) (by kernel_rfl) (H2 := [.box [lsv (encI .i32) 1 x0, .mp 1, .int .i64 s354.1, .int .i64 x2], mQ x3 x4 x5 x6, vecL encSt33 2 34 s354.2]) (by kernel_rfl) (n := 3) (by kernel_rfl) ?_
  refine kD 10 ?_
  refine kEN ?_
  refine kBJ 16 hs585 (fun h588 => ?_) (fun h589 => ?_)
  ·refine kT ?_
   refine kK ?_
   refine PJ.next ?_
   refine kb 1 ?_
   refine kS ?_
   refine J.keep [0, 2, 3] (L2 := [(0, .ptr 0 0), (2, .nl), (3, .vc 2)]) (by kernel_rfl) ?_
   refine K.draw (by kernel_rfl) (by kernel_rfl) (by kernel_rfl) (H2 := [.box [lsv (encI .i32) 1 x0, .mp 1, .int .i64 s354.1, .int .i64 x2], mQ x3 x4 x5 x6, vecL encSt33 2 34 s354.2]) (by kernel_rfl) (n := 3) (by kernel_rfl) ?_
   refine kD 8 ?_
   obtain ⟨hm, h590⟩ := asrt h588
   refine kJ 25 (tr2 := [([], []), ([], []), ([], []), ([0, 1], []), ([], []), ([], []), ([], []), ([0, 1], []), ([], [])]) (encI_len .i32) hm ?_
   refine kD 2 ?_
   refine kEN ?_
   refine kSR ?_
   refine kC 5 [0,2,3,4,31,32] ?_
   cases hb591 : (decide ((nth x0 s354.1) = 45))
   ·have h593 := condF hb591 h590
    have hn594 := of_decide_eq_false hb591
    cases hb602 : (decide ((nth x0 s354.1) = 43))
    ·have h604 := condF hb602 h593
     have hn605 := of_decide_eq_false hb602
     cases hb613 : (decide ((nth x0 s354.1) = 37))
     ·have h615 := condF hb613 h604
      have hn616 := of_decide_eq_false hb613
      cases hb624 : (decide ((nth x0 s354.1) = 164))
      ·have h626 := condF hb624 h615
       have hn627 := of_decide_eq_false hb624
       refine RJ.look (none) (d := some 33) (ef := ⟨.tup [.int .i64 0, .bool false], [1], []⟩) (c := missC (.int .i32 (nth x0 s354.1)) [(.int .i32 45, .int .i64 x3), (.int .i32 43, .int .i64 x4), (.int .i32 37, .int .i64 x5), (.int .i32 164, .int .i64 x6)]) (tr2 := []) (by kernel_rfl) (by simp [hitC, missC, sameB, sameE, hn594, hn605, hn616, hn627]) ?_
       refine kC 5 [0,2,3,4,5,6] ?_
       refine kEN ?_
       obtain ⟨y666, hy667, h668⟩ := bindS h626
       refine K.cutX (by kernel_rfl) (fun (s665 : Unit) => ([(0, .ptr 0 0), (2, .nl), (3, .vc 2)], [.box [lsv (encI .i32) 1 x0, .mp 1, .int .i64 s354.1, .int .i64 x2], mQ x3 x4 x5 x6, vecL encSt33 2 34 ((s354.2 ++ (([(⟨0, (nth x0 s354.1)⟩ : St33)] : List St33))))])) y666 ?_ (fun s665 hs => ?_)
       ·refine kb 2 ?_
        refine kSR ?_
        refine kC 2 [0,2,3,4,5,41] ?_
        refine kEN ?_
        refine kF ?_
        refine kSR ?_
        refine kC 1 [0,2,3,4,49] ?_
        obtain ⟨y670, hy671, h672⟩ := bindS hy667
        refine kCG (some 50) (args := [.ptr 0 0, .int .i32 39, .int .i64 0]) (v := .bool y670) (H2 := [.box [lsv (encI .i32) 1 x0, .mp 1, .int .i64 s354.1, .int .i64 x2], mQ x3 x4 x5 x6, vecL encSt33 2 34 s354.2]) [0, 1] (pat_reader__is_s0_ok hy671) ?_
        refine kC 1 [0,2,3,4,48] ?_
        refine kEN ?_
        refine kBJ 48 h672 (fun h674 => ?_) (fun h675 => ?_)
        ·refine kT ?_
         refine kSR ?_
         refine kC 2 [0,2,3,51,52] ?_
         obtain ⟨y676, hy677, h678⟩ := bindS h674
         rcases y676 with y679 | y680
         ·have h681 := elimL h678
          refine kCG (some 53) (args := [.ptr 0 0, .vc 2]) (v := .vc 3) (H2 := [.box [lsv (encI .i32) 1 x0, .mp 1, .int .i64 y679.1, .int .i64 x2], mQ x3 x4 x5 x6, .gone, vecL encSt33 2 34 y679.2]) [0, 1, 2] (pat_reader__quoted_s0_ok0 hy677) ?_
          refine kC 1 [0,2,3] ?_
          refine kEN ?_
          refine K.exit 1 (by kernel_rfl) ?_
          refine PJ.blockPass (by kernel_rfl) ?_
          obtain rfl := oi h681
          have h683 := joinX_inr h668
          refine PJ.cutXr (fun e => nomatch e) ?_
          refine PJ.blockOut ?_
          obtain rfl := oi h683
          refine kW (L2 := [(0, .ptr 0 0), (2, .nl), (3, .vc 2)]) (H2 := [.box [lsv (encI .i32) 1 x0, .mp 1, .int .i64 y679.1, .int .i64 x2], mQ x3 x4 x5 x6, vecL encSt33 2 34 y679.2]) hFH hFD [0, 1, 3] ?_
          exact kLN [0, 2, 3]
         ·have h682 := elimR h678
          refine RJ.callP (d := (some 53)) (f := 72) (args := [.ptr 0 0, .vc 2]) (args0 := [.ptr 0 0, .vc 2]) (H0 := [.box [lsv (encI .i32) 1 x0, .mp 1, .int .i64 s354.1, .int .i64 x2], mQ x3 x4 x5 x6, vecL encSt33 2 34 s354.2]) (H0' := [.box [.undef, .mp 1, .int .i64 y680, .int .i64 s354.1], mQ x3 x4 x5 x6, .gone]) (H2 := [.box [.undef, .mp 1, .int .i64 y680, .int .i64 s354.1], mQ x3 x4 x5 x6, .gone]) [0, 1, 2] (by kernel_rfl) (by kernel_rfl) (by kernel_rfl) (by kernel_rfl) (by decide) (by kernel_rfl) (by kernel_rfl) (by kernel_rfl) (.cons (Le.refl _) (.cons (Le.refl _) .nil)) (pat_reader__quoted_s0_ok1 hy677) (by kernel_rfl) (by kernel_rfl) ?_
          refine PP.next ?_
          refine PP.block ?_
          obtain rfl := oi h682
          have h685 := joinX_inr h668
          refine PP.cutXr ?_
          refine PP.block ?_
          obtain rfl := oi h685
          refine PP.loopOut (fun he688 => ?_)
          have h686 := congrArg some he688
          refine PP.block ?_
          obtain rfl := oi h686
          have h687 := joinX_inr h352
          refine PP.cutXr ?_
          cases h687
        ·refine kF ?_
         refine kSR ?_
         refine kC 1 [0,2,3,4,55] ?_
         obtain ⟨y689, hy690, h691⟩ := bindS h675
         refine kA 56 (pat_special_ok hy690) ?_
         refine kC 1 [0,2,3,4,54] ?_
         refine kEN ?_
         refine kBJ 54 h691 (fun h693 => ?_) (fun h694 => ?_)
         ·refine kT ?_
          refine kSR ?_
          refine kC 2 [0,2,3] ?_
          refine kEN ?_
          refine kX ?_
          refine PJ.blockRet ?_
          obtain rfl := oi h693
          have h695 := joinX_inr h668
          refine PJ.cutXr (fun e => nomatch e) ?_
          refine PJ.blockRet ?_
          obtain rfl := oi h695
          refine PJ.loopOut (fun e => nomatch e) (fun he698 => ?_)
          have h696 := congrArg some he698
          refine PJ.blockRet ?_
          obtain rfl := oi h696
          have h697 := joinX_inr h352
          refine PJ.cutXr (fun e => nomatch e) ?_
          obtain rfl := Sum.inl.inj (Option.some.inj h697)
          refine PJ.wk (Wk.freeze 2 (n := s354.2.length) (k := 2) (e := 34) (cs := s354.2.flatMap encSt33) (by kernel_rfl)) ?_
          exact kV [0, 1] hFn hFH hFD (v1 := lsv encSt33 2 s354.2)
         ·refine kF ?_
          refine kR ?_
          refine kC 4 [0,2,3,36,39] ?_
          obtain ⟨hm, h699⟩ := asrt h694
          refine RJ.rel (d := (some 40)) (ef := ⟨.vc 4, [2, 3], [(2, .gone), (4, .vec (s354.2.length + (([(⟨0, (nth x0 s354.1)⟩ : St33)] : List St33)).length) 2 34 (s354.2.flatMap encSt33 ++ (([(⟨0, (nth x0 s354.1)⟩ : St33)] : List St33)).flatMap encSt33))]⟩) (ef' := ⟨.vc 4, [2, 3], [(2, .gone), (4, vecL encSt33 2 34 (s354.2 ++ (([(⟨0, (nth x0 s354.1)⟩ : St33)] : List St33))))]⟩) (c := room (s354.2.length + (([(⟨0, (nth x0 s354.1)⟩ : St33)] : List St33)).length)) (tr2 := []) (H2 := [.box [lsv (encI .i32) 1 x0, .mp 1, .int .i64 s354.1, .int .i64 x2], mQ x3 x4 x5 x6, .gone, vecL encSt33 2 34 (([(⟨0, (nth x0 s354.1)⟩ : St33)] : List St33)), vecL encSt33 2 34 ((s354.2 ++ (([(⟨0, (nth x0 s354.1)⟩ : St33)] : List St33))))]) (by kernel_rfl) hm (fun hc => N.app) (by kernel_rfl) ?_
          refine kC 1 [0,2,3] ?_
          refine kE ?_
          refine PJ.blockNormal ?_
          obtain rfl := oi h699
          refine kW (L2 := [(0, .ptr 0 0), (2, .nl), (3, .vc 2)]) (H2 := [.box [lsv (encI .i32) 1 x0, .mp 1, .int .i64 s354.1, .int .i64 x2], mQ x3 x4 x5 x6, vecL encSt33 2 34 ((s354.2 ++ (([(⟨0, (nth x0 s354.1)⟩ : St33)] : List St33))))]) hFH hFD [0, 1, 4] ?_
          exact kXl [0, 2, 3]
       ·subst hs
        have h669 := joinX_inl h668
        refine kR ?_
        refine kC 8 [0,2,3] ?_
        refine kE ?_
        refine PJ.blockNormal ?_
        obtain rfl := oi h669
        exact kLN [0, 2, 3]
      ·have h625 := condT hb624 h615
       have hn627 := of_decide_eq_true hb624
       refine RJ.look (some 3) (d := some 33) (ef := ⟨.tup [.int .i64 x6, .bool true], [1], []⟩) (c := hitC (.int .i32 (nth x0 s354.1)) [(.int .i32 45, .int .i64 x3), (.int .i32 43, .int .i64 x4), (.int .i32 37, .int .i64 x5), (.int .i32 164, .int .i64 x6)] 3) (tr2 := []) (by kernel_rfl) (by simp [hitC, missC, sameB, sameE, hn594, hn605, hn616, hn627]) ?_
       refine kC 5 [0,2,3,4,5,6] ?_
       refine kEN ?_
       obtain ⟨s629, hy631, h633⟩ := bindS h625
       refine K.cutN (by kernel_rfl) (fun (s629 : Unit) => ([(0, .ptr 0 0), (2, .nl), (3, .vc 2)], [.box [lsv (encI .i32) 1 x0, .mp 1, .int .i64 s354.1, .int .i64 x2], mQ x3 x4 x5 x6, vecL encSt33 2 34 ((s354.2 ++ ([(⟨x6, 0⟩ : St33)] : List St33)))])) s629 ?_ ?_
       ·refine kb 2 ?_
        refine kSR ?_
        refine kC 2 [0,2,3,4,5,41] ?_
        refine kEN ?_
        refine kT ?_
        refine kR ?_
        refine kC 4 [0,2,3,43,46] ?_
        obtain ⟨hm, h634⟩ := asrt hy631
        refine RJ.rel (d := (some 47)) (ef := ⟨.vc 4, [2, 3], [(2, .gone), (4, .vec (s354.2.length + ([(⟨x6, 0⟩ : St33)] : List St33).length) 2 34 (s354.2.flatMap encSt33 ++ ([(⟨x6, 0⟩ : St33)] : List St33).flatMap encSt33))]⟩) (ef' := ⟨.vc 4, [2, 3], [(2, .gone), (4, vecL encSt33 2 34 (s354.2 ++ ([(⟨x6, 0⟩ : St33)] : List St33)))]⟩) (c := room (s354.2.length + ([(⟨x6, 0⟩ : St33)] : List St33).length)) (tr2 := []) (H2 := [.box [lsv (encI .i32) 1 x0, .mp 1, .int .i64 s354.1, .int .i64 x2], mQ x3 x4 x5 x6, .gone, vecL encSt33 2 34 ([(⟨x6, 0⟩ : St33)] : List St33), vecL encSt33 2 34 ((s354.2 ++ ([(⟨x6, 0⟩ : St33)] : List St33)))]) (by kernel_rfl) hm (fun hc => N.app) (by kernel_rfl) ?_
        refine kC 1 [0,2,3] ?_
        refine kE ?_
        refine PJ.blockNormal ?_
        obtain rfl := oi h634
        refine kW (L2 := [(0, .ptr 0 0), (2, .nl), (3, .vc 2)]) (H2 := [.box [lsv (encI .i32) 1 x0, .mp 1, .int .i64 s354.1, .int .i64 x2], mQ x3 x4 x5 x6, vecL encSt33 2 34 ((s354.2 ++ ([(⟨x6, 0⟩ : St33)] : List St33)))]) hFH hFD [0, 1, 4] ?_
        exact kN [0, 2, 3]
       ·refine kR ?_
        refine kC 8 [0,2,3] ?_
        refine kE ?_
        refine PJ.blockNormal ?_
        obtain rfl := oi h633
        exact kLN [0, 2, 3]
     ·have h614 := condT hb613 h604
      have hn616 := of_decide_eq_true hb613
      refine RJ.look (some 2) (d := some 33) (ef := ⟨.tup [.int .i64 x5, .bool true], [1], []⟩) (c := hitC (.int .i32 (nth x0 s354.1)) [(.int .i32 45, .int .i64 x3), (.int .i32 43, .int .i64 x4), (.int .i32 37, .int .i64 x5), (.int .i32 164, .int .i64 x6)] 2) (tr2 := []) (by kernel_rfl) (by simp [hitC, missC, sameB, sameE, hn594, hn605, hn616]) ?_
      refine kC 5 [0,2,3,4,5,6] ?_
      refine kEN ?_
      obtain ⟨s618, hy620, h622⟩ := bindS h614
      refine K.cutN (by kernel_rfl) (fun (s618 : Unit) => ([(0, .ptr 0 0), (2, .nl), (3, .vc 2)], [.box [lsv (encI .i32) 1 x0, .mp 1, .int .i64 s354.1, .int .i64 x2], mQ x3 x4 x5 x6, vecL encSt33 2 34 ((s354.2 ++ ([(⟨x5, 0⟩ : St33)] : List St33)))])) s618 ?_ ?_
      ·refine kb 2 ?_
       refine kSR ?_
       refine kC 2 [0,2,3,4,5,41] ?_
       refine kEN ?_
       refine kT ?_
       refine kR ?_
       refine kC 4 [0,2,3,43,46] ?_
       obtain ⟨hm, h623⟩ := asrt hy620
       refine RJ.rel (d := (some 47)) (ef := ⟨.vc 4, [2, 3], [(2, .gone), (4, .vec (s354.2.length + ([(⟨x5, 0⟩ : St33)] : List St33).length) 2 34 (s354.2.flatMap encSt33 ++ ([(⟨x5, 0⟩ : St33)] : List St33).flatMap encSt33))]⟩) (ef' := ⟨.vc 4, [2, 3], [(2, .gone), (4, vecL encSt33 2 34 (s354.2 ++ ([(⟨x5, 0⟩ : St33)] : List St33)))]⟩) (c := room (s354.2.length + ([(⟨x5, 0⟩ : St33)] : List St33).length)) (tr2 := []) (H2 := [.box [lsv (encI .i32) 1 x0, .mp 1, .int .i64 s354.1, .int .i64 x2], mQ x3 x4 x5 x6, .gone, vecL encSt33 2 34 ([(⟨x5, 0⟩ : St33)] : List St33), vecL encSt33 2 34 ((s354.2 ++ ([(⟨x5, 0⟩ : St33)] : List St33)))]) (by kernel_rfl) hm (fun hc => N.app) (by kernel_rfl) ?_
       refine kC 1 [0,2,3] ?_
       refine kE ?_
       refine PJ.blockNormal ?_
       obtain rfl := oi h623
       refine kW (L2 := [(0, .ptr 0 0), (2, .nl), (3, .vc 2)]) (H2 := [.box [lsv (encI .i32) 1 x0, .mp 1, .int .i64 s354.1, .int .i64 x2], mQ x3 x4 x5 x6, vecL encSt33 2 34 ((s354.2 ++ ([(⟨x5, 0⟩ : St33)] : List St33)))]) hFH hFD [0, 1, 4] ?_
       exact kN [0, 2, 3]
      ·refine kR ?_
       refine kC 8 [0,2,3] ?_
       refine kE ?_
       refine PJ.blockNormal ?_
       obtain rfl := oi h622
       exact kLN [0, 2, 3]
    ·have h603 := condT hb602 h593
     have hn605 := of_decide_eq_true hb602
     refine RJ.look (some 1) (d := some 33) (ef := ⟨.tup [.int .i64 x4, .bool true], [1], []⟩) (c := hitC (.int .i32 (nth x0 s354.1)) [(.int .i32 45, .int .i64 x3), (.int .i32 43, .int .i64 x4), (.int .i32 37, .int .i64 x5), (.int .i32 164, .int .i64 x6)] 1) (tr2 := []) (by kernel_rfl) (by simp [hitC, missC, sameB, sameE, hn594, hn605]) ?_
     refine kC 5 [0,2,3,4,5,6] ?_
     refine kEN ?_
     obtain ⟨s607, hy609, h611⟩ := bindS h603
     refine K.cutN (by kernel_rfl) (fun (s607 : Unit) => ([(0, .ptr 0 0), (2, .nl), (3, .vc 2)], [.box [lsv (encI .i32) 1 x0, .mp 1, .int .i64 s354.1, .int .i64 x2], mQ x3 x4 x5 x6, vecL encSt33 2 34 ((s354.2 ++ ([(⟨x4, 0⟩ : St33)] : List St33)))])) s607 ?_ ?_
     ·refine kb 2 ?_
      refine kSR ?_
      refine kC 2 [0,2,3,4,5,41] ?_
      refine kEN ?_
      refine kT ?_
      refine kR ?_
      refine kC 4 [0,2,3,43,46] ?_
      obtain ⟨hm, h612⟩ := asrt hy609
      refine RJ.rel (d := (some 47)) (ef := ⟨.vc 4, [2, 3], [(2, .gone), (4, .vec (s354.2.length + ([(⟨x4, 0⟩ : St33)] : List St33).length) 2 34 (s354.2.flatMap encSt33 ++ ([(⟨x4, 0⟩ : St33)] : List St33).flatMap encSt33))]⟩) (ef' := ⟨.vc 4, [2, 3], [(2, .gone), (4, vecL encSt33 2 34 (s354.2 ++ ([(⟨x4, 0⟩ : St33)] : List St33)))]⟩) (c := room (s354.2.length + ([(⟨x4, 0⟩ : St33)] : List St33).length)) (tr2 := []) (H2 := [.box [lsv (encI .i32) 1 x0, .mp 1, .int .i64 s354.1, .int .i64 x2], mQ x3 x4 x5 x6, .gone, vecL encSt33 2 34 ([(⟨x4, 0⟩ : St33)] : List St33), vecL encSt33 2 34 ((s354.2 ++ ([(⟨x4, 0⟩ : St33)] : List St33)))]) (by kernel_rfl) hm (fun hc => N.app) (by kernel_rfl) ?_
      refine kC 1 [0,2,3] ?_
      refine kE ?_
      refine PJ.blockNormal ?_
      obtain rfl := oi h612
      refine kW (L2 := [(0, .ptr 0 0), (2, .nl), (3, .vc 2)]) (H2 := [.box [lsv (encI .i32) 1 x0, .mp 1, .int .i64 s354.1, .int .i64 x2], mQ x3 x4 x5 x6, vecL encSt33 2 34 ((s354.2 ++ ([(⟨x4, 0⟩ : St33)] : List St33)))]) hFH hFD [0, 1, 4] ?_
      exact kN [0, 2, 3]
     ·refine kR ?_
      refine kC 8 [0,2,3] ?_
      refine kE ?_
      refine PJ.blockNormal ?_
      obtain rfl := oi h611
      exact kLN [0, 2, 3]
   ·have h592 := condT hb591 h590
    have hn594 := of_decide_eq_true hb591
    refine RJ.look (some 0) (d := some 33) (ef := ⟨.tup [.int .i64 x3, .bool true], [1], []⟩) (c := hitC (.int .i32 (nth x0 s354.1)) [(.int .i32 45, .int .i64 x3), (.int .i32 43, .int .i64 x4), (.int .i32 37, .int .i64 x5), (.int .i32 164, .int .i64 x6)] 0) (tr2 := []) (by kernel_rfl) (by simp [hitC, missC, sameB, sameE, hn594]) ?_
    refine kC 5 [0,2,3,4,5,6] ?_
    refine kEN ?_
    obtain ⟨s596, hy598, h600⟩ := bindS h592
    refine K.cutN (by kernel_rfl) (fun (s596 : Unit) => ([(0, .ptr 0 0), (2, .nl), (3, .vc 2)], [.box [lsv (encI .i32) 1 x0, .mp 1, .int .i64 s354.1, .int .i64 x2], mQ x3 x4 x5 x6, vecL encSt33 2 34 ((s354.2 ++ ([(⟨x3, 0⟩ : St33)] : List St33)))])) s596 ?_ ?_
    ·refine kb 2 ?_
     refine kSR ?_
     refine kC 2 [0,2,3,4,5,41] ?_
     refine kEN ?_
     refine kT ?_
     refine kR ?_
     refine kC 4 [0,2,3,43,46] ?_
     obtain ⟨hm, h601⟩ := asrt hy598
     refine RJ.rel (d := (some 47)) (ef := ⟨.vc 4, [2, 3], [(2, .gone), (4, .vec (s354.2.length + ([(⟨x3, 0⟩ : St33)] : List St33).length) 2 34 (s354.2.flatMap encSt33 ++ ([(⟨x3, 0⟩ : St33)] : List St33).flatMap encSt33))]⟩) (ef' := ⟨.vc 4, [2, 3], [(2, .gone), (4, vecL encSt33 2 34 (s354.2 ++ ([(⟨x3, 0⟩ : St33)] : List St33)))]⟩) (c := room (s354.2.length + ([(⟨x3, 0⟩ : St33)] : List St33).length)) (tr2 := []) (H2 := [.box [lsv (encI .i32) 1 x0, .mp 1, .int .i64 s354.1, .int .i64 x2], mQ x3 x4 x5 x6, .gone, vecL encSt33 2 34 ([(⟨x3, 0⟩ : St33)] : List St33), vecL encSt33 2 34 ((s354.2 ++ ([(⟨x3, 0⟩ : St33)] : List St33)))]) (by kernel_rfl) hm (fun hc => N.app) (by kernel_rfl) ?_
     refine kC 1 [0,2,3] ?_
     refine kE ?_
     refine PJ.blockNormal ?_
     obtain rfl := oi h601
     refine kW (L2 := [(0, .ptr 0 0), (2, .nl), (3, .vc 2)]) (H2 := [.box [lsv (encI .i32) 1 x0, .mp 1, .int .i64 s354.1, .int .i64 x2], mQ x3 x4 x5 x6, vecL encSt33 2 34 ((s354.2 ++ ([(⟨x3, 0⟩ : St33)] : List St33)))]) hFH hFD [0, 1, 4] ?_
     exact kN [0, 2, 3]
    ·refine kR ?_
     refine kC 8 [0,2,3] ?_
     refine kE ?_
     refine PJ.blockNormal ?_
     obtain rfl := oi h600
     exact kLN [0, 2, 3]
  ·refine kF ?_
   refine K.exit 0 (by kernel_rfl) ?_
   refine PJ.passExit ?_
   obtain rfl := oi h589
   refine PJ.loopOut (fun e => nomatch e) (fun he701 => ?_)
   have h700 := congrArg some he701
   refine PJ.blockOut ?_
   obtain rfl := oi h700
   exact kXl [2, 3]
 ·subst hs
  have h353 := joinX_inl h352
  refine kSR ?_
  refine kC 2 [2] ?_
  refine kEN ?_
  refine kX ?_
  obtain rfl := Sum.inl.inj (Option.some.inj h353)
  refine PJ.wk (Wk.freeze 2 (n := s349.2.length) (k := 2) (e := 34) (cs := s349.2.flatMap encSt33) (by kernel_rfl)) ?_
  exact kV [0, 1] hFn hFH hFD (v1 := lsv encSt33 2 s349.2)
theorem pat_reader__affix_s0_ok1 {x0 : List Int} {x1 : Int} {x2 : Int} {x3 : Int} {x4 : Int} {x5 : Int} {x6 : Int} {r : Int × Int} (h : pat_reader__affix_s0 x0 x1 x2 x3 x4 x5 x6 = some (.inr r)) : SP Try.prog 61 [.ptr 0 0] [.box [lsv (encI .i32) 1 x0, .mp 1, .int .i64 x1, .int .i64 x2], mQ x3 x4 x5 x6] [.box [.undef, .mp 1, .int .i64 r.1, .int .i64 r.2], mQ x3 x4 x5 x6] := by
 refine kFnP (fn := Try.f61) (fun F hFn hFH hFD => ?_)
 unfold pat_reader__affix_s0 at h
 refine kSR ?_
 refine kC 1 [0,2] ?_
 refine kEN ?_
 refine kSR ?_
 refine kC 1 [0,2,3] ?_
 refine kEN ?_
 obtain ⟨y350, hy351, h352⟩ := bindS h
 refine K.cutX (by kernel_rfl) (fun (s349 : Int × (List St33)) => ([(2, .nl), (3, .vc 2)], [.box [lsv (encI .i32) 1 x0, .mp 1, .int .i64 s349.1, .int .i64 x2], mQ x3 x4 x5 x6, vecL encSt33 2 34 s349.2])) y350 ?_ (fun s349 hs => ?_)
 ·refine kb 0 ?_
  refine J.wk (Wk.viv 3 2 34 (by kernel_rfl)) ?_
  refine kl (fun (s354 : Int × (List St33)) => ([(0, .ptr 0 0), (2, .nl), (3, .vc 2)], [.box [lsv (encI .i32) 1 x0, .mp 1, .int .i64 s354.1, .int .i64 x2], mQ x3 x4 x5 x6, vecL encSt33 2 34 s354.2])) hy351 [0, 2, 3] (fun s354 x586 hs585 => ?_)
  refine kS ?_
  refine kS ?_
  refine J.keep [0, 2, 3] (L2 := [(0, .ptr 0 0), (2, .nl), (3, .vc 2)]) (by kernel_rfl) ?_
  refine K.draw (by kernel_rfl) (by kernel_rfl) (by kernel_rfl) (H2 := [.box [lsv (encI .i32) 1 x0, .mp 1, .int .i64 s354.1, .int .i64 x2], mQ x3 x4 x5 x6, vecL encSt33 2 34 s354.2]) (by kernel_rfl) (n := 3) (by kernel_rfl) ?_
  refine kD 10 ?_
  refine kEN ?_
  refine kBJ 16 hs585 (fun h588 => ?_) (fun h589 => ?_)
  ·refine kT ?_
   refine kK ?_
   refine PJ.next ?_
   refine kb 1 ?_
   refine kS ?_
   refine J.keep [0, 2, 3] (L2 := [(0, .ptr 0 0), (2, .nl), (3, .vc 2)]) (by kernel_rfl) ?_
   refine K.draw (by kernel_rfl) (by kernel_rfl) (by kernel_rfl) (H2 := [.box [lsv (encI .i32) 1 x0, .mp 1, .int .i64 s354.1, .int .i64 x2], mQ x3 x4 x5 x6, vecL encSt33 2 34 s354.2]) (by kernel_rfl) (n := 3) (by kernel_rfl) ?_
   refine kD 8 ?_
   obtain ⟨hm, h590⟩ := asrt h588
   refine kJ 25 (tr2 := [([], []), ([], []), ([], []), ([0, 1], []), ([], []), ([], []), ([], []), ([0, 1], []), ([], [])]) (encI_len .i32) hm ?_
   refine kD 2 ?_
   refine kEN ?_
   refine kSR ?_
   refine kC 5 [0,2,3,4,31,32] ?_
   cases hb591 : (decide ((nth x0 s354.1) = 45))
   ·have h593 := condF hb591 h590
    have hn594 := of_decide_eq_false hb591
    cases hb602 : (decide ((nth x0 s354.1) = 43))
    ·have h604 := condF hb602 h593
     have hn605 := of_decide_eq_false hb602
     cases hb613 : (decide ((nth x0 s354.1) = 37))
     ·have h615 := condF hb613 h604
      have hn616 := of_decide_eq_false hb613
      cases hb624 : (decide ((nth x0 s354.1) = 164))
      ·have h626 := condF hb624 h615
       have hn627 := of_decide_eq_false hb624
       refine RJ.look (none) (d := some 33) (ef := ⟨.tup [.int .i64 0, .bool false], [1], []⟩) (c := missC (.int .i32 (nth x0 s354.1)) [(.int .i32 45, .int .i64 x3), (.int .i32 43, .int .i64 x4), (.int .i32 37, .int .i64 x5), (.int .i32 164, .int .i64 x6)]) (tr2 := []) (by kernel_rfl) (by simp [hitC, missC, sameB, sameE, hn594, hn605, hn616, hn627]) ?_
       refine kC 5 [0,2,3,4,5,6] ?_
       refine kEN ?_
       obtain ⟨y666, hy667, h668⟩ := bindS h626
       refine K.cutX (by kernel_rfl) (fun (s665 : Unit) => ([(0, .ptr 0 0), (2, .nl), (3, .vc 2)], [.box [lsv (encI .i32) 1 x0, .mp 1, .int .i64 s354.1, .int .i64 x2], mQ x3 x4 x5 x6, vecL encSt33 2 34 ((s354.2 ++ (([(⟨0, (nth x0 s354.1)⟩ : St33)] : List St33))))])) y666 ?_ (fun s665 hs => ?_)
       ·refine kb 2 ?_
        refine kSR ?_
        refine kC 2 [0,2,3,4,5,41] ?_
        refine kEN ?_
        refine kF ?_
        refine kSR ?_
        refine kC 1 [0,2,3,4,49] ?_
        obtain ⟨y670, hy671, h672⟩ := bindS hy667
        refine kCG (some 50) (args := [.ptr 0 0, .int .i32 39, .int .i64 0]) (v := .bool y670) (H2 := [.box [lsv (encI .i32) 1 x0, .mp 1, .int .i64 s354.1, .int .i64 x2], mQ x3 x4 x5 x6, vecL encSt33 2 34 s354.2]) [0, 1] (pat_reader__is_s0_ok hy671) ?_
        refine kC 1 [0,2,3,4,48] ?_
        refine kEN ?_
        refine kBJ 48 h672 (fun h674 => ?_) (fun h675 => ?_)
        ·refine kT ?_
         refine kSR ?_
         refine kC 2 [0,2,3,51,52] ?_
         obtain ⟨y676, hy677, h678⟩ := bindS h674
         rcases y676 with y679 | y680
         ·have h681 := elimL h678
          refine kCG (some 53) (args := [.ptr 0 0, .vc 2]) (v := .vc 3) (H2 := [.box [lsv (encI .i32) 1 x0, .mp 1, .int .i64 y679.1, .int .i64 x2], mQ x3 x4 x5 x6, .gone, vecL encSt33 2 34 y679.2]) [0, 1, 2] (pat_reader__quoted_s0_ok0 hy677) ?_
          refine kC 1 [0,2,3] ?_
          refine kEN ?_
          refine K.exit 1 (by kernel_rfl) ?_
          refine PJ.blockPass (by kernel_rfl) ?_
          obtain rfl := oi h681
          have h683 := joinX_inr h668
          refine PJ.cutXr (fun e => nomatch e) ?_
          refine PJ.blockOut ?_
          obtain rfl := oi h683
          refine kW (L2 := [(0, .ptr 0 0), (2, .nl), (3, .vc 2)]) (H2 := [.box [lsv (encI .i32) 1 x0, .mp 1, .int .i64 y679.1, .int .i64 x2], mQ x3 x4 x5 x6, vecL encSt33 2 34 y679.2]) hFH hFD [0, 1, 3] ?_
          exact kLN [0, 2, 3]
         ·have h682 := elimR h678
          refine RJ.callP (d := (some 53)) (f := 72) (args := [.ptr 0 0, .vc 2]) (args0 := [.ptr 0 0, .vc 2]) (H0 := [.box [lsv (encI .i32) 1 x0, .mp 1, .int .i64 s354.1, .int .i64 x2], mQ x3 x4 x5 x6, vecL encSt33 2 34 s354.2]) (H0' := [.box [.undef, .mp 1, .int .i64 y680, .int .i64 s354.1], mQ x3 x4 x5 x6, .gone]) (H2 := [.box [.undef, .mp 1, .int .i64 y680, .int .i64 s354.1], mQ x3 x4 x5 x6, .gone]) [0, 1, 2] (by kernel_rfl) (by kernel_rfl) (by kernel_rfl) (by kernel_rfl) (by decide) (by kernel_rfl) (by kernel_rfl) (by kernel_rfl) (.cons (Le.refl _) (.cons (Le.refl _) .nil)) (pat_reader__quoted_s0_ok1 hy677) (by kernel_rfl) (by kernel_rfl) ?_
          refine PP.next ?_
          refine PP.block ?_
          obtain rfl := oi h682
          have h685 := joinX_inr h668
          refine PP.cutXr ?_
          refine PP.block ?_
          obtain rfl := oi h685
          refine PP.loopOut (fun he688 => ?_)
          have h686 := congrArg some he688
          refine PP.block ?_
          obtain rfl := oi h686
          have h687 := joinX_inr h352
          refine PP.cutXr ?_
          obtain rfl := Sum.inr.inj (Option.some.inj h687)
          exact K.panV (H0 := [.box [lsv (encI .i32) 1 x0, .mp 1, .int .i64 x1, .int .i64 x2], mQ x3 x4 x5 x6]) (H' := [.box [.undef, .mp 1, .int .i64 y680, .int .i64 s354.1], mQ x3 x4 x5 x6]) [0, 1] hFH hFD (by kernel_rfl) (by kernel_rfl) (by decide) (by kernel_rfl) (by kernel_rfl) (by kernel_rfl)
        ·refine kF ?_
         refine kSR ?_
         refine kC 1 [0,2,3,4,55] ?_
         obtain ⟨y689, hy690, h691⟩ := bindS h675
         refine kA 56 (pat_special_ok hy690) ?_
         refine kC 1 [0,2,3,4,54] ?_
         refine kEN ?_
         refine kBJ 54 h691 (fun h693 => ?_) (fun h694 => ?_)
         ·refine kT ?_
          refine kSR ?_
          refine kC 2 [0,2,3] ?_
          refine kEN ?_
          refine kX ?_
          refine PJ.blockRet ?_
          obtain rfl := oi h693
          have h695 := joinX_inr h668
          refine PJ.cutXr (fun e => nomatch e) ?_
          refine PJ.blockRet ?_
          obtain rfl := oi h695
          refine PJ.loopOut (fun e => nomatch e) (fun he698 => ?_)
          have h696 := congrArg some he698
          refine PJ.blockRet ?_
          obtain rfl := oi h696
          have h697 := joinX_inr h352
          refine PJ.cutXr (fun e => nomatch e) ?_
          cases h697
         ·refine kF ?_
          refine kR ?_
          refine kC 4 [0,2,3,36,39] ?_
          obtain ⟨hm, h699⟩ := asrt h694
          refine RJ.rel (d := (some 40)) (ef := ⟨.vc 4, [2, 3], [(2, .gone), (4, .vec (s354.2.length + (([(⟨0, (nth x0 s354.1)⟩ : St33)] : List St33)).length) 2 34 (s354.2.flatMap encSt33 ++ (([(⟨0, (nth x0 s354.1)⟩ : St33)] : List St33)).flatMap encSt33))]⟩) (ef' := ⟨.vc 4, [2, 3], [(2, .gone), (4, vecL encSt33 2 34 (s354.2 ++ (([(⟨0, (nth x0 s354.1)⟩ : St33)] : List St33))))]⟩) (c := room (s354.2.length + (([(⟨0, (nth x0 s354.1)⟩ : St33)] : List St33)).length)) (tr2 := []) (H2 := [.box [lsv (encI .i32) 1 x0, .mp 1, .int .i64 s354.1, .int .i64 x2], mQ x3 x4 x5 x6, .gone, vecL encSt33 2 34 (([(⟨0, (nth x0 s354.1)⟩ : St33)] : List St33)), vecL encSt33 2 34 ((s354.2 ++ (([(⟨0, (nth x0 s354.1)⟩ : St33)] : List St33))))]) (by kernel_rfl) hm (fun hc => N.app) (by kernel_rfl) ?_
          refine kC 1 [0,2,3] ?_
          refine kE ?_
          refine PJ.blockNormal ?_
          obtain rfl := oi h699
          refine kW (L2 := [(0, .ptr 0 0), (2, .nl), (3, .vc 2)]) (H2 := [.box [lsv (encI .i32) 1 x0, .mp 1, .int .i64 s354.1, .int .i64 x2], mQ x3 x4 x5 x6, vecL encSt33 2 34 ((s354.2 ++ (([(⟨0, (nth x0 s354.1)⟩ : St33)] : List St33))))]) hFH hFD [0, 1, 4] ?_
          exact kXl [0, 2, 3]
       ·subst hs
        have h669 := joinX_inl h668
        refine kR ?_
        refine kC 8 [0,2,3] ?_
        refine kE ?_
        refine PJ.blockNormal ?_
        obtain rfl := oi h669
        exact kLN [0, 2, 3]
      ·have h625 := condT hb624 h615
       have hn627 := of_decide_eq_true hb624
       refine RJ.look (some 3) (d := some 33) (ef := ⟨.tup [.int .i64 x6, .bool true], [1], []⟩) (c := hitC (.int .i32 (nth x0 s354.1)) [(.int .i32 45, .int .i64 x3), (.int .i32 43, .int .i64 x4), (.int .i32 37, .int .i64 x5), (.int .i32 164, .int .i64 x6)] 3) (tr2 := []) (by kernel_rfl) (by simp [hitC, missC, sameB, sameE, hn594, hn605, hn616, hn627]) ?_
       refine kC 5 [0,2,3,4,5,6] ?_
       refine kEN ?_
       obtain ⟨s629, hy631, h633⟩ := bindS h625
       refine K.cutN (by kernel_rfl) (fun (s629 : Unit) => ([(0, .ptr 0 0), (2, .nl), (3, .vc 2)], [.box [lsv (encI .i32) 1 x0, .mp 1, .int .i64 s354.1, .int .i64 x2], mQ x3 x4 x5 x6, vecL encSt33 2 34 ((s354.2 ++ ([(⟨x6, 0⟩ : St33)] : List St33)))])) s629 ?_ ?_
       ·refine kb 2 ?_
        refine kSR ?_
        refine kC 2 [0,2,3,4,5,41] ?_
        refine kEN ?_
        refine kT ?_
        refine kR ?_
        refine kC 4 [0,2,3,43,46] ?_
        obtain ⟨hm, h634⟩ := asrt hy631
        refine RJ.rel (d := (some 47)) (ef := ⟨.vc 4, [2, 3], [(2, .gone), (4, .vec (s354.2.length + ([(⟨x6, 0⟩ : St33)] : List St33).length) 2 34 (s354.2.flatMap encSt33 ++ ([(⟨x6, 0⟩ : St33)] : List St33).flatMap encSt33))]⟩) (ef' := ⟨.vc 4, [2, 3], [(2, .gone), (4, vecL encSt33 2 34 (s354.2 ++ ([(⟨x6, 0⟩ : St33)] : List St33)))]⟩) (c := room (s354.2.length + ([(⟨x6, 0⟩ : St33)] : List St33).length)) (tr2 := []) (H2 := [.box [lsv (encI .i32) 1 x0, .mp 1, .int .i64 s354.1, .int .i64 x2], mQ x3 x4 x5 x6, .gone, vecL encSt33 2 34 ([(⟨x6, 0⟩ : St33)] : List St33), vecL encSt33 2 34 ((s354.2 ++ ([(⟨x6, 0⟩ : St33)] : List St33)))]) (by kernel_rfl) hm (fun hc => N.app) (by kernel_rfl) ?_
        refine kC 1 [0,2,3] ?_
        refine kE ?_
        refine PJ.blockNormal ?_
        obtain rfl := oi h634
        refine kW (L2 := [(0, .ptr 0 0), (2, .nl), (3, .vc 2)]) (H2 := [.box [lsv (encI .i32) 1 x0, .mp 1, .int .i64 s354.1, .int .i64 x2], mQ x3 x4 x5 x6, vecL encSt33 2 34 ((s354.2 ++ ([(⟨x6, 0⟩ : St33)] : List St33)))]) hFH hFD [0, 1, 4] ?_
        exact kN [0, 2, 3]
       ·refine kR ?_
        refine kC 8 [0,2,3] ?_
        refine kE ?_
        refine PJ.blockNormal ?_
        obtain rfl := oi h633
        exact kLN [0, 2, 3]
     ·have h614 := condT hb613 h604
      have hn616 := of_decide_eq_true hb613
      refine RJ.look (some 2) (d := some 33) (ef := ⟨.tup [.int .i64 x5, .bool true], [1], []⟩) (c := hitC (.int .i32 (nth x0 s354.1)) [(.int .i32 45, .int .i64 x3), (.int .i32 43, .int .i64 x4), (.int .i32 37, .int .i64 x5), (.int .i32 164, .int .i64 x6)] 2) (tr2 := []) (by kernel_rfl) (by simp [hitC, missC, sameB, sameE, hn594, hn605, hn616]) ?_
      refine kC 5 [0,2,3,4,5,6] ?_
      refine kEN ?_
      obtain ⟨s618, hy620, h622⟩ := bindS h614
      refine K.cutN (by kernel_rfl) (fun (s618 : Unit) => ([(0, .ptr 0 0), (2, .nl), (3, .vc 2)], [.box [lsv (encI .i32) 1 x0, .mp 1, .int .i64 s354.1, .int .i64 x2], mQ x3 x4 x5 x6, vecL encSt33 2 34 ((s354.2 ++ ([(⟨x5, 0⟩ : St33)] : List St33)))])) s618 ?_ ?_
      ·refine kb 2 ?_
       refine kSR ?_
       refine kC 2 [0,2,3,4,5,41] ?_
       refine kEN ?_
       refine kT ?_
       refine kR ?_
       refine kC 4 [0,2,3,43,46] ?_
       obtain ⟨hm, h623⟩ := asrt hy620
       refine RJ.rel (d := (some 47)) (ef := ⟨.vc 4, [2, 3], [(2, .gone), (4, .vec (s354.2.length + ([(⟨x5, 0⟩ : St33)] : List St33).length) 2 34 (s354.2.flatMap encSt33 ++ ([(⟨x5, 0⟩ : St33)] : List St33).flatMap encSt33))]⟩) (ef' := ⟨.vc 4, [2, 3], [(2, .gone), (4, vecL encSt33 2 34 (s354.2 ++ ([(⟨x5, 0⟩ : St33)] : List St33)))]⟩) (c := room (s354.2.length + ([(⟨x5, 0⟩ : St33)] : List St33).length)) (tr2 := []) (H2 := [.box [lsv (encI .i32) 1 x0, .mp 1, .int .i64 s354.1, .int .i64 x2], mQ x3 x4 x5 x6, .gone, vecL encSt33 2 34 ([(⟨x5, 0⟩ : St33)] : List St33), vecL encSt33 2 34 ((s354.2 ++ ([(⟨x5, 0⟩ : St33)] : List St33)))]) (by kernel_rfl) hm (fun hc => N.app) (by kernel_rfl) ?_
       refine kC 1 [0,2,3] ?_
       refine kE ?_
       refine PJ.blockNormal ?_
       obtain rfl := oi h623
       refine kW (L2 := [(0, .ptr 0 0), (2, .nl), (3, .vc 2)]) (H2 := [.box [lsv (encI .i32) 1 x0, .mp 1, .int .i64 s354.1, .int .i64 x2], mQ x3 x4 x5 x6, vecL encSt33 2 34 ((s354.2 ++ ([(⟨x5, 0⟩ : St33)] : List St33)))]) hFH hFD [0, 1, 4] ?_
       exact kN [0, 2, 3]
      ·refine kR ?_
       refine kC 8 [0,2,3] ?_
       refine kE ?_
       refine PJ.blockNormal ?_
       obtain rfl := oi h622
       exact kLN [0, 2, 3]
    ·have h603 := condT hb602 h593
     have hn605 := of_decide_eq_true hb602
     refine RJ.look (some 1) (d := some 33) (ef := ⟨.tup [.int .i64 x4, .bool true], [1], []⟩) (c := hitC (.int .i32 (nth x0 s354.1)) [(.int .i32 45, .int .i64 x3), (.int .i32 43, .int .i64 x4), (.int .i32 37, .int .i64 x5), (.int .i32 164, .int .i64 x6)] 1) (tr2 := []) (by kernel_rfl) (by simp [hitC, missC, sameB, sameE, hn594, hn605]) ?_
     refine kC 5 [0,2,3,4,5,6] ?_
     refine kEN ?_
     obtain ⟨s607, hy609, h611⟩ := bindS h603
     refine K.cutN (by kernel_rfl) (fun (s607 : Unit) => ([(0, .ptr 0 0), (2, .nl), (3, .vc 2)], [.box [lsv (encI .i32) 1 x0, .mp 1, .int .i64 s354.1, .int .i64 x2], mQ x3 x4 x5 x6, vecL encSt33 2 34 ((s354.2 ++ ([(⟨x4, 0⟩ : St33)] : List St33)))])) s607 ?_ ?_
     ·refine kb 2 ?_
      refine kSR ?_
      refine kC 2 [0,2,3,4,5,41] ?_
      refine kEN ?_
      refine kT ?_
      refine kR ?_
      refine kC 4 [0,2,3,43,46] ?_
      obtain ⟨hm, h612⟩ := asrt hy609
      refine RJ.rel (d := (some 47)) (ef := ⟨.vc 4, [2, 3], [(2, .gone), (4, .vec (s354.2.length + ([(⟨x4, 0⟩ : St33)] : List St33).length) 2 34 (s354.2.flatMap encSt33 ++ ([(⟨x4, 0⟩ : St33)] : List St33).flatMap encSt33))]⟩) (ef' := ⟨.vc 4, [2, 3], [(2, .gone), (4, vecL encSt33 2 34 (s354.2 ++ ([(⟨x4, 0⟩ : St33)] : List St33)))]⟩) (c := room (s354.2.length + ([(⟨x4, 0⟩ : St33)] : List St33).length)) (tr2 := []) (H2 := [.box [lsv (encI .i32) 1 x0, .mp 1, .int .i64 s354.1, .int .i64 x2], mQ x3 x4 x5 x6, .gone, vecL encSt33 2 34 ([(⟨x4, 0⟩ : St33)] : List St33), vecL encSt33 2 34 ((s354.2 ++ ([(⟨x4, 0⟩ : St33)] : List St33)))]) (by kernel_rfl) hm (fun hc => N.app) (by kernel_rfl) ?_
      refine kC 1 [0,2,3] ?_
      refine kE ?_
      refine PJ.blockNormal ?_
      obtain rfl := oi h612
      refine kW (L2 := [(0, .ptr 0 0), (2, .nl), (3, .vc 2)]) (H2 := [.box [lsv (encI .i32) 1 x0, .mp 1, .int .i64 s354.1, .int .i64 x2], mQ x3 x4 x5 x6, vecL encSt33 2 34 ((s354.2 ++ ([(⟨x4, 0⟩ : St33)] : List St33)))]) hFH hFD [0, 1, 4] ?_
      exact kN [0, 2, 3]
     ·refine kR ?_
      refine kC 8 [0,2,3] ?_
      refine kE ?_
      refine PJ.blockNormal ?_
      obtain rfl := oi h611
      exact kLN [0, 2, 3]
   ·have h592 := condT hb591 h590
    have hn594 := of_decide_eq_true hb591
    refine RJ.look (some 0) (d := some 33) (ef := ⟨.tup [.int .i64 x3, .bool true], [1], []⟩) (c := hitC (.int .i32 (nth x0 s354.1)) [(.int .i32 45, .int .i64 x3), (.int .i32 43, .int .i64 x4), (.int .i32 37, .int .i64 x5), (.int .i32 164, .int .i64 x6)] 0) (tr2 := []) (by kernel_rfl) (by simp [hitC, missC, sameB, sameE, hn594]) ?_
    refine kC 5 [0,2,3,4,5,6] ?_
    refine kEN ?_
    obtain ⟨s596, hy598, h600⟩ := bindS h592
    refine K.cutN (by kernel_rfl) (fun (s596 : Unit) => ([(0, .ptr 0 0), (2, .nl), (3, .vc 2)], [.box [lsv (encI .i32) 1 x0, .mp 1, .int .i64 s354.1, .int .i64 x2], mQ x3 x4 x5 x6, vecL encSt33 2 34 ((s354.2 ++ ([(⟨x3, 0⟩ : St33)] : List St33)))])) s596 ?_ ?_
    ·refine kb 2 ?_
     refine kSR ?_
     refine kC 2 [0,2,3,4,5,41] ?_
     refine kEN ?_
     refine kT ?_
     refine kR ?_
     refine kC 4 [0,2,3,43,46] ?_
     obtain ⟨hm, h601⟩ := asrt hy598
     refine RJ.rel (d := (some 47)) (ef := ⟨.vc 4, [2, 3], [(2, .gone), (4, .vec (s354.2.length + ([(⟨x3, 0⟩ : St33)] : List St33).length) 2 34 (s354.2.flatMap encSt33 ++ ([(⟨x3, 0⟩ : St33)] : List St33).flatMap encSt33))]⟩) (ef' := ⟨.vc 4, [2, 3], [(2, .gone), (4, vecL encSt33 2 34 (s354.2 ++ ([(⟨x3, 0⟩ : St33)] : List St33)))]⟩) (c := room (s354.2.length + ([(⟨x3, 0⟩ : St33)] : List St33).length)) (tr2 := []) (H2 := [.box [lsv (encI .i32) 1 x0, .mp 1, .int .i64 s354.1, .int .i64 x2], mQ x3 x4 x5 x6, .gone, vecL encSt33 2 34 ([(⟨x3, 0⟩ : St33)] : List St33), vecL encSt33 2 34 ((s354.2 ++ ([(⟨x3, 0⟩ : St33)] : List St33)))]) (by kernel_rfl) hm (fun hc => N.app) (by kernel_rfl) ?_
     refine kC 1 [0,2,3] ?_
     refine kE ?_
     refine PJ.blockNormal ?_
     obtain rfl := oi h601
     refine kW (L2 := [(0, .ptr 0 0), (2, .nl), (3, .vc 2)]) (H2 := [.box [lsv (encI .i32) 1 x0, .mp 1, .int .i64 s354.1, .int .i64 x2], mQ x3 x4 x5 x6, vecL encSt33 2 34 ((s354.2 ++ ([(⟨x3, 0⟩ : St33)] : List St33)))]) hFH hFD [0, 1, 4] ?_
     exact kN [0, 2, 3]
    ·refine kR ?_
     refine kC 8 [0,2,3] ?_
     refine kE ?_
     refine PJ.blockNormal ?_
     obtain rfl := oi h600
     exact kLN [0, 2, 3]
  ·refine kF ?_
   refine K.exit 0 (by kernel_rfl) ?_
   refine PJ.passExit ?_
   obtain rfl := oi h589
   refine PJ.loopOut (fun e => nomatch e) (fun he701 => ?_)
   have h700 := congrArg some he701
   refine PJ.blockOut ?_
   obtain rfl := oi h700
   exact kXl [2, 3]
 ·subst hs
  have h353 := joinX_inl h352
  refine kSR ?_
  refine kC 2 [2] ?_
  refine kEN ?_
  refine kX ?_
  cases h353
def pat_reader__pad_s1 (x0 : Int) (x1 : List Int) (x2 : Int) (x3 : Int) (x4 : Int) (x5 : Int) (x6 : Int) (x7 : Int) (x8 : List St33) (x9 : Bool) (x10 : Int) (x11 : Int) (x12 : Int) (x13 : Int) (x14 : Int) (x15 : Int) (x16 : Int) (x17 : Int) (x18 : Int) (x19 : Bool) (x20 : Int) (x21 : Int) : Option ((Int × Int × Int) ⊕ (Int × Int)) :=
 (Option.bind (Option.bind (bif (decide (¬ x21 = 0)) then (some (true, x2)) else (Option.bind (pat_reader__eat_s0 42 x1 x2 x3 x4 x5 x6 x7) fun y41 => (some ((!y41.1), y41.2)))) fun (s33 : Bool × Int) => (bif s33.1 then (some (.inr (.inl (s33.2, x20, x21)))) else (some (.inl s33.2)))) (joinX fun (s22 : Int) => (Option.bind (bif (decide (s22 = (x1.length : Int))) then (Option.bind (pat_reader__fail_s0 s22 x1 s22 x3 x4 x5 x6 x7) fun y64 => (some (.inr (.inr (s22, s22))))) else (some (.inl ()))) (joinX fun (s56 : Unit) => (bif inR s22 x1.length then (some (.inl ((IntKind.wrap .i64 (s22 + 1)), (nth x1 s22), x0))) else none)))))
theorem pat_reader__pad_s1_ok0 {x0 : Int} {x1 : List Int} {x2 : Int} {x3 : Int} {x4 : Int} {x5 : Int} {x6 : Int} {x7 : Int} {x8 : List St33} {x9 : Bool} {x10 : Int} {x11 : Int} {x12 : Int} {x13 : Int} {x14 : Int} {x15 : Int} {x16 : Int} {x17 : Int} {x18 : Int} {x19 : Bool} {x20 : Int} {x21 : Int} {r : Int × Int × Int} (h : pat_reader__pad_s1 x0 x1 x2 x3 x4 x5 x6 x7 x8 x9 x10 x11 x12 x13 x14 x15 x16 x17 x18 x19 x20 x21 = some (.inl r)) : SC Try.prog 60 [.ptr 0 0, .ptr 2 0, .int .i64 x0] [.box [lsv (encI .i32) 1 x1, .mp 1, .int .i64 x2, .int .i64 x3], mQ x4 x5 x6 x7, .box [lsv encSt33 2 x8, .nl, .nl, .nl, .bool x9, .int .i64 x10, .int .i64 x11, .int .i64 x12, .int .i64 x13, .int .i64 x14, .int .i64 x15, .int .i64 x16, .int .i64 x17, .int .i64 x18, .bool x19, .int .i32 x20, .int .i64 x21]] (.tup []) [.box [lsv (encI .i32) 1 x1, .mp 1, .int .i64 r.1, .int .i64 x3], mQ x4 x5 x6 x7, .box [lsv encSt33 2 x8, .nl, .nl, .nl, .bool x9, .int .i64 x10, .int .i64 x11, .int .i64 x12, .int .i64 x13, .int .i64 x14, .int .i64 x15, .int .i64 x16, .int .i64 x17, .int .i64 x18, .bool x19, .int .i32 r.2.1, .int .i64 r.2.2]] := by
 refine kFn (fn := Try.f60) (fun F hFn hFH hFD => ?_)
 unfold pat_reader__pad_s1 at h
 obtain ⟨y23, hy24, h25⟩ := bindS h
 refine K.cutX (by kernel_rfl) (fun (s22 : Int) => ([(0, .ptr 0 0), (1, .ptr 2 0), (2, .int .i64 x0)], [.box [lsv (encI .i32) 1 x1, .mp 1, .int .i64 s22, .int .i64 x3], mQ x4 x5 x6 x7, .box [lsv encSt33 2 x8, .nl, .nl, .nl, .bool x9, .int .i64 x10, .int .i64 x11, .int .i64 x12, .int .i64 x13, .int .i64 x14, .int .i64 x15, .int .i64 x16, .int .i64 x17, .int .i64 x18, .bool x19, .int .i32 x20, .int .i64 x21]])) y23 ?_ (fun s22 hs => ?_)
 ·obtain ⟨s33, hy35, h37⟩ := bindS hy24
  refine K.cutN (by kernel_rfl) (fun (s33 : Bool × Int) => ([(0, .ptr 0 0), (1, .ptr 2 0), (2, .int .i64 x0), (15, .bool s33.1)], [.box [lsv (encI .i32) 1 x1, .mp 1, .int .i64 s33.2, .int .i64 x3], mQ x4 x5 x6 x7, .box [lsv encSt33 2 x8, .nl, .nl, .nl, .bool x9, .int .i64 x10, .int .i64 x11, .int .i64 x12, .int .i64 x13, .int .i64 x14, .int .i64 x15, .int .i64 x16, .int .i64 x17, .int .i64 x18, .bool x19, .int .i32 x20, .int .i64 x21]])) s33 ?_ ?_
  ·refine kR ?_
   refine kC 6 [0,1,2,11] ?_
   refine kB 11 hy35 (fun h39 => ?_) (fun h40 => ?_)
   ·refine kC 4 [0,1,2,15] ?_
    refine kE ?_
    obtain rfl := oi h39
    exact kN [0, 1, 2, 15]
   ·refine kC 1 [0,1,2,11,12] ?_
    obtain ⟨y41, hy42, h43⟩ := bindS h40
    refine kCG (some 13) (args := [.ptr 0 0, .int .i32 42]) (v := .bool y41.1) (H2 := [.box [lsv (encI .i32) 1 x1, .mp 1, .int .i64 y41.2, .int .i64 x3], mQ x4 x5 x6 x7, .box [lsv encSt33 2 x8, .nl, .nl, .nl, .bool x9, .int .i64 x10, .int .i64 x11, .int .i64 x12, .int .i64 x13, .int .i64 x14, .int .i64 x15, .int .i64 x16, .int .i64 x17, .int .i64 x18, .bool x19, .int .i32 x20, .int .i64 x21]]) [0, 1] (pat_reader__eat_s0_ok hy42) ?_
    refine kC 2 [0,1,2,15] ?_
    refine kE ?_
    obtain rfl := oi h43
    exact kN [0, 1, 2, 15]
  ·refine kBJ 15 h37 (fun h45 => ?_) (fun h46 => ?_)
   ·refine kT ?_
    refine kX ?_
    obtain rfl := oi h45
    have h47 := joinX_inr h25
    refine PJ.cutXr (fun e => nomatch e) ?_
    obtain rfl := Sum.inl.inj (Option.some.inj h47)
    exact kV [0, 1, 2] hFn hFH hFD (v1 := .tup [])
   ·refine kF ?_
    refine kK ?_
    obtain rfl := oi h46
    exact kXl [0, 1, 2]
 ·subst hs
  have h26 := joinX_inl h25
  obtain ⟨y57, hy58, h59⟩ := bindS h26
  refine K.cutX (by kernel_rfl) (fun (s56 : Unit) => ([(0, .ptr 0 0), (1, .ptr 2 0), (2, .int .i64 x0)], [.box [lsv (encI .i32) 1 x1, .mp 1, .int .i64 s22, .int .i64 x3], mQ x4 x5 x6 x7, .box [lsv encSt33 2 x8, .nl, .nl, .nl, .bool x9, .int .i64 x10, .int .i64 x11, .int .i64 x12, .int .i64 x13, .int .i64 x14, .int .i64 x15, .int .i64 x16, .int .i64 x17, .int .i64 x18, .bool x19, .int .i32 x20, .int .i64 x21]])) y57 ?_ (fun s56 hs => ?_)
  ·refine kS ?_
   refine J.keep [0, 1, 2] (L2 := [(0, .ptr 0 0), (1, .ptr 2 0), (2, .int .i64 x0)]) (by kernel_rfl) ?_
   refine K.draw (by kernel_rfl) (by kernel_rfl) (by kernel_rfl) (H2 := [.box [lsv (encI .i32) 1 x1, .mp 1, .int .i64 s22, .int .i64 x3], mQ x4 x5 x6 x7, .box [lsv encSt33 2 x8, .nl, .nl, .nl, .bool x9, .int .i64 x10, .int .i64 x11, .int .i64 x12, .int .i64 x13, .int .i64 x14, .int .i64 x15, .int .i64 x16, .int .i64 x17, .int .i64 x18, .bool x19, .int .i32 x20, .int .i64 x21]]) (by kernel_rfl) (n := 3) (by kernel_rfl) ?_
   refine kD 10 ?_
   refine kEN ?_
   refine kBJ 25 hy58 (fun h62 => ?_) (fun h63 => ?_)
   ·refine kT ?_
    refine kR ?_
    refine kC 5 [0,1,2,26,30] ?_
    obtain ⟨y64, hy65, h66⟩ := bindS h62
    refine RJ.callP (d := (some 31)) (f := 65) (args := [.ptr 0 0, .int .i64 s22]) (args0 := [.ptr 0 0, .int .i64 s22]) (H0 := [.box [lsv (encI .i32) 1 x1, .mp 1, .int .i64 s22, .int .i64 x3], mQ x4 x5 x6 x7]) (H0' := [.box [.undef, .mp 1, .int .i64 s22, .int .i64 s22], mQ x4 x5 x6 x7]) (H2 := [.box [.undef, .mp 1, .int .i64 s22, .int .i64 s22], mQ x4 x5 x6 x7, .box [lsv encSt33 2 x8, .nl, .nl, .nl, .bool x9, .int .i64 x10, .int .i64 x11, .int .i64 x12, .int .i64 x13, .int .i64 x14, .int .i64 x15, .int .i64 x16, .int .i64 x17, .int .i64 x18, .bool x19, .int .i32 x20, .int .i64 x21]]) [0, 1] (by kernel_rfl) (by kernel_rfl) (by kernel_rfl) (by kernel_rfl) (by decide) (by kernel_rfl) (by kernel_rfl) (by kernel_rfl) (.cons (Le.refl _) (.cons (Le.refl _) .nil)) (pat_reader__fail_s0_ok0 hy65) (by kernel_rfl) (by kernel_rfl) ?_
    obtain rfl := oi h66
    have h68 := joinX_inr h59
    refine PP.cutXr ?_
    cases h68
   ·refine kF ?_
    refine kK ?_
    obtain rfl := oi h63
    exact kXl [0, 1, 2]
  ·subst hs
   have h60 := joinX_inl h59
   refine kS ?_
   refine J.keep [0, 1, 2] (L2 := [(0, .ptr 0 0), (1, .ptr 2 0), (2, .int .i64 x0)]) (by kernel_rfl) ?_
   refine K.draw (by kernel_rfl) (by kernel_rfl) (by kernel_rfl) (H2 := [.box [lsv (encI .i32) 1 x1, .mp 1, .int .i64 s22, .int .i64 x3], mQ x4 x5 x6 x7, .box [lsv encSt33 2 x8, .nl, .nl, .nl, .bool x9, .int .i64 x10, .int .i64 x11, .int .i64 x12, .int .i64 x13, .int .i64 x14, .int .i64 x15, .int .i64 x16, .int .i64 x17, .int .i64 x18, .bool x19, .int .i32 x20, .int .i64 x21]]) (by kernel_rfl) (n := 3) (by kernel_rfl) ?_
   refine kD 10 ?_
   obtain ⟨hm, h69⟩ := asrt h60
   refine kJ 42 (tr2 := [([], []), ([], []), ([], []), ([], []), ([], []), ([0, 1], []), ([], []), ([], []), ([], []), ([0, 1], []), ([], [])]) (encI_len .i32) hm ?_
   refine kD 8 ?_
   refine kEN ?_
   refine kR ?_
   refine kC 8 [] ?_
   refine kE ?_
   obtain rfl := Sum.inl.inj (Option.some.inj h69)
   exact K.retV (H0 := [.box [lsv (encI .i32) 1 x1, .mp 1, .int .i64 x2, .int .i64 x3], mQ x4 x5 x6 x7, .box [lsv encSt33 2 x8, .nl, .nl, .nl, .bool x9, .int .i64 x10, .int .i64 x11, .int .i64 x12, .int .i64 x13, .int .i64 x14, .int .i64 x15, .int .i64 x16, .int .i64 x17, .int .i64 x18, .bool x19, .int .i32 x20, .int .i64 x21]]) [0, 1, 2] (.inl rfl) hFn hFH hFD (by kernel_rfl) (v1 := .tup []) (by kernel_rfl) (by kernel_rfl) (by kernel_rfl) (by decide) (by kernel_rfl) (by kernel_rfl) (by kernel_rfl) (by kernel_rfl) (by kernel_rfl)
theorem pat_reader__pad_s1_ok1 {x0 : Int} {x1 : List Int} {x2 : Int} {x3 : Int} {x4 : Int} {x5 : Int} {x6 : Int} {x7 : Int} {x8 : List St33} {x9 : Bool} {x10 : Int} {x11 : Int} {x12 : Int} {x13 : Int} {x14 : Int} {x15 : Int} {x16 : Int} {x17 : Int} {x18 : Int} {x19 : Bool} {x20 : Int} {x21 : Int} {r : Int × Int} (h : pat_reader__pad_s1 x0 x1 x2 x3 x4 x5 x6 x7 x8 x9 x10 x11 x12 x13 x14 x15 x16 x17 x18 x19 x20 x21 = some (.inr r)) : SP Try.prog 60 [.ptr 0 0, .ptr 2 0, .int .i64 x0] [.box [lsv (encI .i32) 1 x1, .mp 1, .int .i64 x2, .int .i64 x3], mQ x4 x5 x6 x7, .box [lsv encSt33 2 x8, .nl, .nl, .nl, .bool x9, .int .i64 x10, .int .i64 x11, .int .i64 x12, .int .i64 x13, .int .i64 x14, .int .i64 x15, .int .i64 x16, .int .i64 x17, .int .i64 x18, .bool x19, .int .i32 x20, .int .i64 x21]] [.box [.undef, .mp 1, .int .i64 r.1, .int .i64 r.2], mQ x4 x5 x6 x7, .box [.undef, .undef, .undef, .undef, .bool x9, .int .i64 x10, .int .i64 x11, .int .i64 x12, .int .i64 x13, .int .i64 x14, .int .i64 x15, .int .i64 x16, .int .i64 x17, .int .i64 x18, .bool x19, .int .i32 x20, .int .i64 x21]] := by
 refine kFnP (fn := Try.f60) (fun F hFn hFH hFD => ?_)
 unfold pat_reader__pad_s1 at h
 obtain ⟨y23, hy24, h25⟩ := bindS h
 refine K.cutX (by kernel_rfl) (fun (s22 : Int) => ([(0, .ptr 0 0), (1, .ptr 2 0), (2, .int .i64 x0)], [.box [lsv (encI .i32) 1 x1, .mp 1, .int .i64 s22, .int .i64 x3], mQ x4 x5 x6 x7, .box [lsv encSt33 2 x8, .nl, .nl, .nl, .bool x9, .int .i64 x10, .int .i64 x11, .int .i64 x12, .int .i64 x13, .int .i64 x14, .int .i64 x15, .int .i64 x16, .int .i64 x17, .int .i64 x18, .bool x19, .int .i32 x20, .int .i64 x21]])) y23 ?_ (fun s22 hs => ?_)
 ·obtain ⟨s33, hy35, h37⟩ := bindS hy24
  refine K.cutN (by kernel_rfl) (fun (s33 : Bool × Int) => ([(0, .ptr 0 0), (1, .ptr 2 0), (2, .int .i64 x0), (15, .bool s33.1)], [.box [lsv (encI .i32) 1 x1, .mp 1, .int .i64 s33.2, .int .i64 x3], mQ x4 x5 x6 x7, .box [lsv encSt33 2 x8, .nl, .nl, .nl, .bool x9, .int .i64 x10, .int .i64 x11, .int .i64 x12, .int .i64 x13, .int .i64 x14, .int .i64 x15, .int .i64 x16, .int .i64 x17, .int .i64 x18, .bool x19, .int .i32 x20, .int .i64 x21]])) s33 ?_ ?_
  ·refine kR ?_
   refine kC 6 [0,1,2,11] ?_
   refine kB 11 hy35 (fun h39 => ?_) (fun h40 => ?_)
   ·refine kC 4 [0,1,2,15] ?_
    refine kE ?_
    obtain rfl := oi h39
    exact kN [0, 1, 2, 15]
   ·refine kC 1 [0,1,2,11,12] ?_
    obtain ⟨y41, hy42, h43⟩ := bindS h40
    refine kCG (some 13) (args := [.ptr 0 0, .int .i32 42]) (v := .bool y41.1) (H2 := [.box [lsv (encI .i32) 1 x1, .mp 1, .int .i64 y41.2, .int .i64 x3], mQ x4 x5 x6 x7, .box [lsv encSt33 2 x8, .nl, .nl, .nl, .bool x9, .int .i64 x10, .int .i64 x11, .int .i64 x12, .int .i64 x13, .int .i64 x14, .int .i64 x15, .int .i64 x16, .int .i64 x17, .int .i64 x18, .bool x19, .int .i32 x20, .int .i64 x21]]) [0, 1] (pat_reader__eat_s0_ok hy42) ?_
    refine kC 2 [0,1,2,15] ?_
    refine kE ?_
    obtain rfl := oi h43
    exact kN [0, 1, 2, 15]
  ·refine kBJ 15 h37 (fun h45 => ?_) (fun h46 => ?_)
   ·refine kT ?_
    refine kX ?_
    obtain rfl := oi h45
    have h47 := joinX_inr h25
    refine PJ.cutXr (fun e => nomatch e) ?_
    cases h47
   ·refine kF ?_
    refine kK ?_
    obtain rfl := oi h46
    exact kXl [0, 1, 2]
 ·subst hs
  have h26 := joinX_inl h25
  obtain ⟨y57, hy58, h59⟩ := bindS h26
  refine K.cutX (by kernel_rfl) (fun (s56 : Unit) => ([(0, .ptr 0 0), (1, .ptr 2 0), (2, .int .i64 x0)], [.box [lsv (encI .i32) 1 x1, .mp 1, .int .i64 s22, .int .i64 x3], mQ x4 x5 x6 x7, .box [lsv encSt33 2 x8, .nl, .nl, .nl, .bool x9, .int .i64 x10, .int .i64 x11, .int .i64 x12, .int .i64 x13, .int .i64 x14, .int .i64 x15, .int .i64 x16, .int .i64 x17, .int .i64 x18, .bool x19, .int .i32 x20, .int .i64 x21]])) y57 ?_ (fun s56 hs => ?_)
  ·refine kS ?_
   refine J.keep [0, 1, 2] (L2 := [(0, .ptr 0 0), (1, .ptr 2 0), (2, .int .i64 x0)]) (by kernel_rfl) ?_
   refine K.draw (by kernel_rfl) (by kernel_rfl) (by kernel_rfl) (H2 := [.box [lsv (encI .i32) 1 x1, .mp 1, .int .i64 s22, .int .i64 x3], mQ x4 x5 x6 x7, .box [lsv encSt33 2 x8, .nl, .nl, .nl, .bool x9, .int .i64 x10, .int .i64 x11, .int .i64 x12, .int .i64 x13, .int .i64 x14, .int .i64 x15, .int .i64 x16, .int .i64 x17, .int .i64 x18, .bool x19, .int .i32 x20, .int .i64 x21]]) (by kernel_rfl) (n := 3) (by kernel_rfl) ?_
   refine kD 10 ?_
   refine kEN ?_
   refine kBJ 25 hy58 (fun h62 => ?_) (fun h63 => ?_)
   ·refine kT ?_
    refine kR ?_
    refine kC 5 [0,1,2,26,30] ?_
    obtain ⟨y64, hy65, h66⟩ := bindS h62
    refine RJ.callP (d := (some 31)) (f := 65) (args := [.ptr 0 0, .int .i64 s22]) (args0 := [.ptr 0 0, .int .i64 s22]) (H0 := [.box [lsv (encI .i32) 1 x1, .mp 1, .int .i64 s22, .int .i64 x3], mQ x4 x5 x6 x7]) (H0' := [.box [.undef, .mp 1, .int .i64 s22, .int .i64 s22], mQ x4 x5 x6 x7]) (H2 := [.box [.undef, .mp 1, .int .i64 s22, .int .i64 s22], mQ x4 x5 x6 x7, .box [lsv encSt33 2 x8, .nl, .nl, .nl, .bool x9, .int .i64 x10, .int .i64 x11, .int .i64 x12, .int .i64 x13, .int .i64 x14, .int .i64 x15, .int .i64 x16, .int .i64 x17, .int .i64 x18, .bool x19, .int .i32 x20, .int .i64 x21]]) [0, 1] (by kernel_rfl) (by kernel_rfl) (by kernel_rfl) (by kernel_rfl) (by decide) (by kernel_rfl) (by kernel_rfl) (by kernel_rfl) (.cons (Le.refl _) (.cons (Le.refl _) .nil)) (pat_reader__fail_s0_ok0 hy65) (by kernel_rfl) (by kernel_rfl) ?_
    obtain rfl := oi h66
    have h68 := joinX_inr h59
    refine PP.cutXr ?_
    obtain rfl := Sum.inr.inj (Option.some.inj h68)
    refine PP.wk (Wk.undefs 2 [true, true, true, true, false, false, false, false, false, false, false, false, false, false, false, false, false] (cs := [lsv encSt33 2 x8, .nl, .nl, .nl, .bool x9, .int .i64 x10, .int .i64 x11, .int .i64 x12, .int .i64 x13, .int .i64 x14, .int .i64 x15, .int .i64 x16, .int .i64 x17, .int .i64 x18, .bool x19, .int .i32 x20, .int .i64 x21]) (by kernel_rfl)) ?_
    exact K.panV (H0 := [.box [lsv (encI .i32) 1 x1, .mp 1, .int .i64 x2, .int .i64 x3], mQ x4 x5 x6 x7, .box [lsv encSt33 2 x8, .nl, .nl, .nl, .bool x9, .int .i64 x10, .int .i64 x11, .int .i64 x12, .int .i64 x13, .int .i64 x14, .int .i64 x15, .int .i64 x16, .int .i64 x17, .int .i64 x18, .bool x19, .int .i32 x20, .int .i64 x21]]) (H' := [.box [.undef, .mp 1, .int .i64 s22, .int .i64 s22], mQ x4 x5 x6 x7, .box [.undef, .undef, .undef, .undef, .bool x9, .int .i64 x10, .int .i64 x11, .int .i64 x12, .int .i64 x13, .int .i64 x14, .int .i64 x15, .int .i64 x16, .int .i64 x17, .int .i64 x18, .bool x19, .int .i32 x20, .int .i64 x21]]) [0, 1, 2] hFH hFD (by kernel_rfl) (by kernel_rfl) (by decide) (by kernel_rfl) (by kernel_rfl) (by kernel_rfl)
   ·refine kF ?_
    refine kK ?_
    obtain rfl := oi h63
    exact kXl [0, 1, 2]
  ·subst hs
   have h60 := joinX_inl h59
   refine kS ?_
   refine J.keep [0, 1, 2] (L2 := [(0, .ptr 0 0), (1, .ptr 2 0), (2, .int .i64 x0)]) (by kernel_rfl) ?_
   refine K.draw (by kernel_rfl) (by kernel_rfl) (by kernel_rfl) (H2 := [.box [lsv (encI .i32) 1 x1, .mp 1, .int .i64 s22, .int .i64 x3], mQ x4 x5 x6 x7, .box [lsv encSt33 2 x8, .nl, .nl, .nl, .bool x9, .int .i64 x10, .int .i64 x11, .int .i64 x12, .int .i64 x13, .int .i64 x14, .int .i64 x15, .int .i64 x16, .int .i64 x17, .int .i64 x18, .bool x19, .int .i32 x20, .int .i64 x21]]) (by kernel_rfl) (n := 3) (by kernel_rfl) ?_
   refine kD 10 ?_
   obtain ⟨hm, h69⟩ := asrt h60
   refine kJ 42 (tr2 := [([], []), ([], []), ([], []), ([], []), ([], []), ([0, 1], []), ([], []), ([], []), ([], []), ([0, 1], []), ([], [])]) (encI_len .i32) hm ?_
   refine kD 8 ?_
   refine kEN ?_
   refine kR ?_
   refine kC 8 [] ?_
   refine kE ?_
   cases h69
def pat_reader__many_s0 (x0 : Int) (x1 : List Int) (x2 : Int) (x3 : Int) (x4 : Int) (x5 : Int) (x6 : Int) (x7 : Int) : Option (Int × Int) :=
 (Option.bind (loopN (fun (s33 : Int × Int) => (Option.bind (pat_reader__eat_s0 x0 x1 s33.2 x3 x4 x5 x6 x7) fun y52 => (bif y52.1 then (some (.inl ((IntKind.wrap .i64 (s33.1 + 1)), y52.2))) else (some (.inr (s33.1, y52.2)))))) big (0, x2)) fun (s28 : Int × Int) => (some (s28.1, s28.2)))
theorem pat_reader__many_s0_ok {x0 : Int} {x1 : List Int} {x2 : Int} {x3 : Int} {x4 : Int} {x5 : Int} {x6 : Int} {x7 : Int} {r : Int × Int} (h : pat_reader__many_s0 x0 x1 x2 x3 x4 x5 x6 x7 = some r) : SC Try.prog 73 [.ptr 0 0, .int .i32 x0] [.box [lsv (encI .i32) 1 x1, .mp 1, .int .i64 x2, .int .i64 x3], mQ x4 x5 x6 x7] (.int .i64 r.1) [.box [lsv (encI .i32) 1 x1, .mp 1, .int .i64 r.2, .int .i64 x3], mQ x4 x5 x6 x7] := by
 refine kFn (fn := Try.f73) (fun F hFn hFH hFD => ?_)
 unfold pat_reader__many_s0 at h
 refine kSR ?_
 refine kC 1 [0,1,4] ?_
 refine kEN ?_
 refine kSR ?_
 refine kC 1 [0,1,4,5] ?_
 refine kEN ?_
 obtain ⟨s28, hy30, h32⟩ := bindS h
 refine K.cutN (by kernel_rfl) (fun (s28 : Int × Int) => ([(4, .int .i64 0), (5, .int .i64 s28.1)], [.box [lsv (encI .i32) 1 x1, .mp 1, .int .i64 s28.2, .int .i64 x3], mQ x4 x5 x6 x7])) s28 ?_ ?_
 ·refine kb 0 ?_
  refine kl (fun (s33 : Int × Int) => ([(0, .ptr 0 0), (1, .int .i32 x0), (4, .int .i64 0), (5, .int .i64 s33.1)], [.box [lsv (encI .i32) 1 x1, .mp 1, .int .i64 s33.2, .int .i64 x3], mQ x4 x5 x6 x7])) hy30 [0, 1, 4, 5] (fun s33 x51 hs50 => ?_)
  refine kS ?_
  refine kSR ?_
  refine kC 2 [0,1,4,5,6,7] ?_
  obtain ⟨y52, hy53, h54⟩ := bindS hs50
  refine kCG (some 8) (args := [.ptr 0 0, .int .i32 x0]) (v := .bool y52.1) (H2 := [.box [lsv (encI .i32) 1 x1, .mp 1, .int .i64 y52.2, .int .i64 x3], mQ x4 x5 x6 x7]) [0, 1] (pat_reader__eat_s0_ok hy53) ?_
  refine kEN ?_
  refine kBJ 8 h54 (fun h56 => ?_) (fun h57 => ?_)
  ·refine kT ?_
   refine kK ?_
   refine PJ.next ?_
   refine kb 1 ?_
   refine kR ?_
   refine kC 3 [0,1,4,5] ?_
   refine kE ?_
   refine PJ.blockNormal ?_
   obtain rfl := oi h56
   exact kLN [0, 1, 4, 5]
  ·refine kF ?_
   refine K.exit 0 (by kernel_rfl) ?_
   refine PJ.passExit ?_
   obtain rfl := oi h57
   refine PJ.loopOut (fun e => nomatch e) (fun he59 => ?_)
   have h58 := congrArg some he59
   refine PJ.blockOut ?_
   obtain rfl := oi h58
   exact kN [4, 5]
 ·refine kSR ?_
  refine kC 2 [4] ?_
  refine kEN ?_
  refine kX ?_
  obtain rfl := oi h32
  exact kV [0, 1] hFn hFH hFD (v1 := .int .i64 s28.1)
def pat_reader__place_s0 (x0 : Int) (x1 : List Int) (x2 : Int) (x3 : Int) (x4 : Int) (x5 : Int) (x6 : Int) (x7 : Int) (x8 : List St33) (x9 : Bool) (x10 : Int) (x11 : Int) (x12 : Int) (x13 : Int) (x14 : Int) (x15 : Int) (x16 : Int) (x17 : Int) (x18 : Int) (x19 : Bool) (x20 : Int) (x21 : Int) : Option (Bool) :=
 (Option.bind (Option.bind (pat_reader__is_s0 48 x0 x1 x2 x3 x4 x5 x6 x7) fun y18 => (bif y18 then (some true) else (bif (decide (x11 = 0)) then (Option.bind (pat_reader__is_s0 35 x0 x1 x2 x3 x4 x5 x6 x7) fun y27 => (some y27)) else (some false)))) fun (s13 : Bool) => (some s13))
theorem pat_reader__place_s0_ok {x0 : Int} {x1 : List Int} {x2 : Int} {x3 : Int} {x4 : Int} {x5 : Int} {x6 : Int} {x7 : Int} {x8 : List St33} {x9 : Bool} {x10 : Int} {x11 : Int} {x12 : Int} {x13 : Int} {x14 : Int} {x15 : Int} {x16 : Int} {x17 : Int} {x18 : Int} {x19 : Bool} {x20 : Int} {x21 : Int} {r : Bool} (h : pat_reader__place_s0 x0 x1 x2 x3 x4 x5 x6 x7 x8 x9 x10 x11 x12 x13 x14 x15 x16 x17 x18 x19 x20 x21 = some r) : SC Try.prog 77 [.ptr 0 0, .ptr 2 0, .int .i64 x0] [.box [lsv (encI .i32) 1 x1, .mp 1, .int .i64 x2, .int .i64 x3], mQ x4 x5 x6 x7, .box [lsv encSt33 2 x8, .nl, .nl, .nl, .bool x9, .int .i64 x10, .int .i64 x11, .int .i64 x12, .int .i64 x13, .int .i64 x14, .int .i64 x15, .int .i64 x16, .int .i64 x17, .int .i64 x18, .bool x19, .int .i32 x20, .int .i64 x21]] (.bool r) [.box [lsv (encI .i32) 1 x1, .mp 1, .int .i64 x2, .int .i64 x3], mQ x4 x5 x6 x7, .box [lsv encSt33 2 x8, .nl, .nl, .nl, .bool x9, .int .i64 x10, .int .i64 x11, .int .i64 x12, .int .i64 x13, .int .i64 x14, .int .i64 x15, .int .i64 x16, .int .i64 x17, .int .i64 x18, .bool x19, .int .i32 x20, .int .i64 x21]] := by
 refine kFn (fn := Try.f77) (fun F hFn hFH hFD => ?_)
 unfold pat_reader__place_s0 at h
 refine kSR ?_
 refine kC 1 [0,1,2,6] ?_
 refine kEN ?_
 obtain ⟨s13, hy15, h17⟩ := bindS h
 refine K.cutN (by kernel_rfl) (fun (s13 : Bool) => ([(6, .bool s13)], [.box [lsv (encI .i32) 1 x1, .mp 1, .int .i64 x2, .int .i64 x3], mQ x4 x5 x6 x7, .box [lsv encSt33 2 x8, .nl, .nl, .nl, .bool x9, .int .i64 x10, .int .i64 x11, .int .i64 x12, .int .i64 x13, .int .i64 x14, .int .i64 x15, .int .i64 x16, .int .i64 x17, .int .i64 x18, .bool x19, .int .i32 x20, .int .i64 x21]])) s13 ?_ ?_
 ·refine kR ?_
  refine kC 2 [0,1,2,6,7,8] ?_
  obtain ⟨y18, hy19, h20⟩ := bindS hy15
  refine kCG (some 9) (args := [.ptr 0 0, .int .i32 48, .int .i64 x0]) (v := .bool y18) (H2 := [.box [lsv (encI .i32) 1 x1, .mp 1, .int .i64 x2, .int .i64 x3], mQ x4 x5 x6 x7, .box [lsv encSt33 2 x8, .nl, .nl, .nl, .bool x9, .int .i64 x10, .int .i64 x11, .int .i64 x12, .int .i64 x13, .int .i64 x14, .int .i64 x15, .int .i64 x16, .int .i64 x17, .int .i64 x18, .bool x19, .int .i32 x20, .int .i64 x21]]) [0, 1] (pat_reader__is_s0_ok hy19) ?_
  refine kC 1 [0,1,2,6,10] ?_
  refine kB 10 h20 (fun h22 => ?_) (fun h23 => ?_)
  ·refine kC 12 [6] ?_
   refine kE ?_
   obtain rfl := oi h22
   exact kN [6]
  ·refine kC 6 [0,2,6,10,16] ?_
   refine kB 16 h23 (fun h25 => ?_) (fun h26 => ?_)
   ·refine kC 2 [6,10,16,17,18] ?_
    obtain ⟨y27, hy28, h29⟩ := bindS h25
    refine kCG (some 19) (args := [.ptr 0 0, .int .i32 35, .int .i64 x0]) (v := .bool y27) (H2 := [.box [lsv (encI .i32) 1 x1, .mp 1, .int .i64 x2, .int .i64 x3], mQ x4 x5 x6 x7, .box [lsv encSt33 2 x8, .nl, .nl, .nl, .bool x9, .int .i64 x10, .int .i64 x11, .int .i64 x12, .int .i64 x13, .int .i64 x14, .int .i64 x15, .int .i64 x16, .int .i64 x17, .int .i64 x18, .bool x19, .int .i32 x20, .int .i64 x21]]) [0, 1] (pat_reader__is_s0_ok hy28) ?_
    refine kC 3 [6] ?_
    refine kE ?_
    obtain rfl := oi h29
    exact kN [6]
   ·refine kC 6 [6] ?_
    refine kE ?_
    obtain rfl := oi h26
    exact kN [6]
 ·refine kX ?_
  obtain rfl := oi h17
  exact kV [0, 1, 2] hFn hFH hFD (v1 := .bool s13)
def pat_reader__comma_s0 (x0 : Int) (x1 : List Int) (x2 : Int) (x3 : Int) (x4 : Int) (x5 : Int) (x6 : Int) (x7 : Int) (x8 : List St33) (x9 : Bool) (x10 : Int) (x11 : Int) (x12 : Int) (x13 : Int) (x14 : Int) (x15 : Int) (x16 : Int) (x17 : Int) (x18 : Int) (x19 : Bool) (x20 : Int) (x21 : Int) : Option (Bool) :=
 (Option.bind (bif (decide (x0 > 0)) then (Option.bind (pat_reader__is_s0 44 0 x1 x2 x3 x4 x5 x6 x7) fun y21 => (bif y21 then (Option.bind (pat_reader__place_s0 1 x1 x2 x3 x4 x5 x6 x7 x8 x9 x10 x11 x12 x13 x14 x15 x16 x17 x18 x19 x20 x21) fun y27 => (some y27)) else (some false))) else (some false)) fun (s13 : Bool) => (some s13))
theorem pat_reader__comma_s0_ok {x0 : Int} {x1 : List Int} {x2 : Int} {x3 : Int} {x4 : Int} {x5 : Int} {x6 : Int} {x7 : Int} {x8 : List St33} {x9 : Bool} {x10 : Int} {x11 : Int} {x12 : Int} {x13 : Int} {x14 : Int} {x15 : Int} {x16 : Int} {x17 : Int} {x18 : Int} {x19 : Bool} {x20 : Int} {x21 : Int} {r : Bool} (h : pat_reader__comma_s0 x0 x1 x2 x3 x4 x5 x6 x7 x8 x9 x10 x11 x12 x13 x14 x15 x16 x17 x18 x19 x20 x21 = some r) : SC Try.prog 78 [.ptr 0 0, .ptr 2 0, .int .i64 x0] [.box [lsv (encI .i32) 1 x1, .mp 1, .int .i64 x2, .int .i64 x3], mQ x4 x5 x6 x7, .box [lsv encSt33 2 x8, .nl, .nl, .nl, .bool x9, .int .i64 x10, .int .i64 x11, .int .i64 x12, .int .i64 x13, .int .i64 x14, .int .i64 x15, .int .i64 x16, .int .i64 x17, .int .i64 x18, .bool x19, .int .i32 x20, .int .i64 x21]] (.bool r) [.box [lsv (encI .i32) 1 x1, .mp 1, .int .i64 x2, .int .i64 x3], mQ x4 x5 x6 x7, .box [lsv encSt33 2 x8, .nl, .nl, .nl, .bool x9, .int .i64 x10, .int .i64 x11, .int .i64 x12, .int .i64 x13, .int .i64 x14, .int .i64 x15, .int .i64 x16, .int .i64 x17, .int .i64 x18, .bool x19, .int .i32 x20, .int .i64 x21]] := by
 refine kFn (fn := Try.f78) (fun F hFn hFH hFD => ?_)
 unfold pat_reader__comma_s0 at h
 refine kSR ?_
 refine kC 1 [0,1,2,6] ?_
 refine kEN ?_
 obtain ⟨s13, hy15, h17⟩ := bindS h
 refine K.cutN (by kernel_rfl) (fun (s13 : Bool) => ([(6, .bool s13)], [.box [lsv (encI .i32) 1 x1, .mp 1, .int .i64 x2, .int .i64 x3], mQ x4 x5 x6 x7, .box [lsv encSt33 2 x8, .nl, .nl, .nl, .bool x9, .int .i64 x10, .int .i64 x11, .int .i64 x12, .int .i64 x13, .int .i64 x14, .int .i64 x15, .int .i64 x16, .int .i64 x17, .int .i64 x18, .bool x19, .int .i32 x20, .int .i64 x21]])) s13 ?_ ?_
 ·refine kR ?_
  refine kC 3 [0,1,6,9] ?_
  refine kB 9 hy15 (fun h19 => ?_) (fun h20 => ?_)
  ·refine kC 1 [0,1,6,9,10] ?_
   obtain ⟨y21, hy22, h23⟩ := bindS h19
   refine kCG (some 11) (args := [.ptr 0 0, .int .i32 44, .int .i64 0]) (v := .bool y21) (H2 := [.box [lsv (encI .i32) 1 x1, .mp 1, .int .i64 x2, .int .i64 x3], mQ x4 x5 x6 x7, .box [lsv encSt33 2 x8, .nl, .nl, .nl, .bool x9, .int .i64 x10, .int .i64 x11, .int .i64 x12, .int .i64 x13, .int .i64 x14, .int .i64 x15, .int .i64 x16, .int .i64 x17, .int .i64 x18, .bool x19, .int .i32 x20, .int .i64 x21]]) [0, 1] (pat_reader__is_s0_ok hy22) ?_
   refine kC 2 [0,1,6,13] ?_
   refine kB 13 h23 (fun h25 => ?_) (fun h26 => ?_)
   ·refine kC 2 [6,13,14,15] ?_
    obtain ⟨y27, hy28, h29⟩ := bindS h25
    refine kCG (some 16) (args := [.ptr 0 0, .ptr 2 0, .int .i64 1]) (v := .bool y27) (H2 := [.box [lsv (encI .i32) 1 x1, .mp 1, .int .i64 x2, .int .i64 x3], mQ x4 x5 x6 x7, .box [lsv encSt33 2 x8, .nl, .nl, .nl, .bool x9, .int .i64 x10, .int .i64 x11, .int .i64 x12, .int .i64 x13, .int .i64 x14, .int .i64 x15, .int .i64 x16, .int .i64 x17, .int .i64 x18, .bool x19, .int .i32 x20, .int .i64 x21]]) [0, 1, 2] (pat_reader__place_s0_ok hy28) ?_
    refine kC 2 [6] ?_
    refine kE ?_
    obtain rfl := oi h29
    exact kN [6]
   ·refine kC 5 [6] ?_
    refine kE ?_
    obtain rfl := oi h26
    exact kN [6]
  ·refine kC 9 [6] ?_
   refine kE ?_
   obtain rfl := oi h20
   exact kN [6]
 ·refine kX ?_
  obtain rfl := oi h17
  exact kV [0, 1, 2] hFn hFH hFD (v1 := .bool s13)
def pat_reader__between_s0 (x0 : Int) (x1 : Int) (x2 : List Int) (x3 : Int) (x4 : Int) (x5 : Int) (x6 : Int) (x7 : Int) (x8 : Int) (x9 : List St33) (x10 : Bool) (x11 : Int) (x12 : Int) (x13 : Int) (x14 : Int) (x15 : Int) (x16 : Int) (x17 : Int) (x18 : Int) (x19 : Int) (x20 : Bool) (x21 : Int) (x22 : Int) : Option (Int ⊕ Unit) :=
 (Option.bind (Option.bind (bif (decide (x0 = 0)) then (some true) else (Option.bind (pat_reader__comma_s0 x1 x2 x3 x4 x5 x6 x7 x8 x9 x10 x11 x12 x13 x14 x15 x16 x17 x18 x19 x20 x21 x22) fun y41 => (some (!y41)))) fun (s33 : Bool) => (bif s33 then (some (.inr (.inl x16))) else (some (.inl ())))) (joinX fun (s22 : Unit) => (Option.bind (Option.bind (bif (decide (x0 > 1)) then (some (decide (¬ x1 = x16))) else (some false)) fun (s75 : Bool) => (bif s75 then (Option.bind (pat_reader__fail_s0 x3 x2 x3 x4 x5 x6 x7 x8) fun y86 => (some (.inr (.inr ())))) else (some (.inl ())))) (joinX fun (s67 : Unit) => (some (.inl x1))))))
theorem pat_reader__between_s0_ok0 {x0 : Int} {x1 : Int} {x2 : List Int} {x3 : Int} {x4 : Int} {x5 : Int} {x6 : Int} {x7 : Int} {x8 : Int} {x9 : List St33} {x10 : Bool} {x11 : Int} {x12 : Int} {x13 : Int} {x14 : Int} {x15 : Int} {x16 : Int} {x17 : Int} {x18 : Int} {x19 : Int} {x20 : Bool} {x21 : Int} {x22 : Int} {r : Int} (h : pat_reader__between_s0 x0 x1 x2 x3 x4 x5 x6 x7 x8 x9 x10 x11 x12 x13 x14 x15 x16 x17 x18 x19 x20 x21 x22 = some (.inl r)) : SC Try.prog 79 [.ptr 0 0, .ptr 2 0, .int .i64 x0, .int .i64 x1] [.box [lsv (encI .i32) 1 x2, .mp 1, .int .i64 x3, .int .i64 x4], mQ x5 x6 x7 x8, .box [lsv encSt33 2 x9, .nl, .nl, .nl, .bool x10, .int .i64 x11, .int .i64 x12, .int .i64 x13, .int .i64 x14, .int .i64 x15, .int .i64 x16, .int .i64 x17, .int .i64 x18, .int .i64 x19, .bool x20, .int .i32 x21, .int .i64 x22]] (.tup []) [.box [lsv (encI .i32) 1 x2, .mp 1, .int .i64 x3, .int .i64 x4], mQ x5 x6 x7 x8, .box [lsv encSt33 2 x9, .nl, .nl, .nl, .bool x10, .int .i64 x11, .int .i64 x12, .int .i64 x13, .int .i64 x14, .int .i64 x15, .int .i64 r, .int .i64 x17, .int .i64 x18, .int .i64 x19, .bool x20, .int .i32 x21, .int .i64 x22]] := by
 refine kFn (fn := Try.f79) (fun F hFn hFH hFD => ?_)
 unfold pat_reader__between_s0 at h
 obtain ⟨y23, hy24, h25⟩ := bindS h
 refine K.cutX (by kernel_rfl) (fun (s22 : Unit) => ([(0, .ptr 0 0), (1, .ptr 2 0), (2, .int .i64 x0), (3, .int .i64 x1)], [.box [lsv (encI .i32) 1 x2, .mp 1, .int .i64 x3, .int .i64 x4], mQ x5 x6 x7 x8, .box [lsv encSt33 2 x9, .nl, .nl, .nl, .bool x10, .int .i64 x11, .int .i64 x12, .int .i64 x13, .int .i64 x14, .int .i64 x15, .int .i64 x16, .int .i64 x17, .int .i64 x18, .int .i64 x19, .bool x20, .int .i32 x21, .int .i64 x22]])) y23 ?_ (fun s22 hs => ?_)
 ·obtain ⟨s33, hy35, h37⟩ := bindS hy24
  refine K.cutN (by kernel_rfl) (fun (s33 : Bool) => ([(0, .ptr 0 0), (1, .ptr 2 0), (2, .int .i64 x0), (3, .int .i64 x1), (16, .bool s33)], [.box [lsv (encI .i32) 1 x2, .mp 1, .int .i64 x3, .int .i64 x4], mQ x5 x6 x7 x8, .box [lsv encSt33 2 x9, .nl, .nl, .nl, .bool x10, .int .i64 x11, .int .i64 x12, .int .i64 x13, .int .i64 x14, .int .i64 x15, .int .i64 x16, .int .i64 x17, .int .i64 x18, .int .i64 x19, .bool x20, .int .i32 x21, .int .i64 x22]])) s33 ?_ ?_
  ·refine kR ?_
   refine kC 3 [0,1,2,3,10] ?_
   refine kB 10 hy35 (fun h39 => ?_) (fun h40 => ?_)
   ·refine kC 6 [0,1,2,3,16] ?_
    refine kE ?_
    obtain rfl := oi h39
    exact kN [0, 1, 2, 3, 16]
   ·refine kC 3 [0,1,2,3,10,11,12,13] ?_
    obtain ⟨y41, hy42, h43⟩ := bindS h40
    refine kCG (some 14) (args := [.ptr 0 0, .ptr 2 0, .int .i64 x1]) (v := .bool y41) (H2 := [.box [lsv (encI .i32) 1 x2, .mp 1, .int .i64 x3, .int .i64 x4], mQ x5 x6 x7 x8, .box [lsv encSt33 2 x9, .nl, .nl, .nl, .bool x10, .int .i64 x11, .int .i64 x12, .int .i64 x13, .int .i64 x14, .int .i64 x15, .int .i64 x16, .int .i64 x17, .int .i64 x18, .int .i64 x19, .bool x20, .int .i32 x21, .int .i64 x22]]) [0, 1, 2] (pat_reader__comma_s0_ok hy42) ?_
    refine kC 2 [0,1,2,3,16] ?_
    refine kE ?_
    obtain rfl := oi h43
    exact kN [0, 1, 2, 3, 16]
  ·refine kBJ 16 h37 (fun h45 => ?_) (fun h46 => ?_)
   ·refine kT ?_
    refine kX ?_
    obtain rfl := oi h45
    have h47 := joinX_inr h25
    refine PJ.cutXr (fun e => nomatch e) ?_
    obtain rfl := Sum.inl.inj (Option.some.inj h47)
    exact kV [0, 1, 2] hFn hFH hFD (v1 := .tup [])
   ·refine kF ?_
    refine kK ?_
    obtain rfl := oi h46
    exact kXl [0, 1, 2, 3]
 ·subst hs
  have h26 := joinX_inl h25
  obtain ⟨y68, hy69, h70⟩ := bindS h26
  refine K.cutX (by kernel_rfl) (fun (s67 : Unit) => ([(1, .ptr 2 0), (3, .int .i64 x1)], [.box [lsv (encI .i32) 1 x2, .mp 1, .int .i64 x3, .int .i64 x4], mQ x5 x6 x7 x8, .box [lsv encSt33 2 x9, .nl, .nl, .nl, .bool x10, .int .i64 x11, .int .i64 x12, .int .i64 x13, .int .i64 x14, .int .i64 x15, .int .i64 x16, .int .i64 x17, .int .i64 x18, .int .i64 x19, .bool x20, .int .i32 x21, .int .i64 x22]])) y68 ?_ (fun s67 hs => ?_)
  ·obtain ⟨s75, hy77, h79⟩ := bindS hy69
   refine K.cutN (by kernel_rfl) (fun (s75 : Bool) => ([(0, .ptr 0 0), (1, .ptr 2 0), (3, .int .i64 x1), (26, .bool s75)], [.box [lsv (encI .i32) 1 x2, .mp 1, .int .i64 x3, .int .i64 x4], mQ x5 x6 x7 x8, .box [lsv encSt33 2 x9, .nl, .nl, .nl, .bool x10, .int .i64 x11, .int .i64 x12, .int .i64 x13, .int .i64 x14, .int .i64 x15, .int .i64 x16, .int .i64 x17, .int .i64 x18, .int .i64 x19, .bool x20, .int .i32 x21, .int .i64 x22]])) s75 ?_ ?_
   ·refine kR ?_
    refine kC 3 [0,1,3,19] ?_
    refine kB 19 hy77 (fun h81 => ?_) (fun h82 => ?_)
    ·refine kC 7 [0,1,3,26] ?_
     refine kE ?_
     obtain rfl := oi h81
     exact kN [0, 1, 3, 26]
    ·refine kC 7 [0,1,3,26] ?_
     refine kE ?_
     obtain rfl := oi h82
     exact kN [0, 1, 3, 26]
   ·refine kBJ 26 h79 (fun h84 => ?_) (fun h85 => ?_)
    ·refine kT ?_
     refine kR ?_
     refine kC 5 [1,3,27,31] ?_
     obtain ⟨y86, hy87, h88⟩ := bindS h84
     refine RJ.callP (d := (some 32)) (f := 65) (args := [.ptr 0 0, .int .i64 x3]) (args0 := [.ptr 0 0, .int .i64 x3]) (H0 := [.box [lsv (encI .i32) 1 x2, .mp 1, .int .i64 x3, .int .i64 x4], mQ x5 x6 x7 x8]) (H0' := [.box [.undef, .mp 1, .int .i64 x3, .int .i64 x3], mQ x5 x6 x7 x8]) (H2 := [.box [.undef, .mp 1, .int .i64 x3, .int .i64 x3], mQ x5 x6 x7 x8, .box [lsv encSt33 2 x9, .nl, .nl, .nl, .bool x10, .int .i64 x11, .int .i64 x12, .int .i64 x13, .int .i64 x14, .int .i64 x15, .int .i64 x16, .int .i64 x17, .int .i64 x18, .int .i64 x19, .bool x20, .int .i32 x21, .int .i64 x22]]) [0, 1] (by kernel_rfl) (by kernel_rfl) (by kernel_rfl) (by kernel_rfl) (by decide) (by kernel_rfl) (by kernel_rfl) (by kernel_rfl) (.cons (Le.refl _) (.cons (Le.refl _) .nil)) (pat_reader__fail_s0_ok0 hy87) (by kernel_rfl) (by kernel_rfl) ?_
     obtain rfl := oi h88
     have h90 := joinX_inr h70
     refine PP.cutXr ?_
     cases h90
    ·refine kF ?_
     refine kK ?_
     obtain rfl := oi h85
     exact kXl [1, 3]
  ·subst hs
   have h71 := joinX_inl h70
   refine kR ?_
   refine kC 5 [] ?_
   refine kE ?_
   obtain rfl := Sum.inl.inj (Option.some.inj h71)
   exact K.retV (H0 := [.box [lsv (encI .i32) 1 x2, .mp 1, .int .i64 x3, .int .i64 x4], mQ x5 x6 x7 x8, .box [lsv encSt33 2 x9, .nl, .nl, .nl, .bool x10, .int .i64 x11, .int .i64 x12, .int .i64 x13, .int .i64 x14, .int .i64 x15, .int .i64 x16, .int .i64 x17, .int .i64 x18, .int .i64 x19, .bool x20, .int .i32 x21, .int .i64 x22]]) [0, 1, 2] (.inl rfl) hFn hFH hFD (by kernel_rfl) (v1 := .tup []) (by kernel_rfl) (by kernel_rfl) (by kernel_rfl) (by decide) (by kernel_rfl) (by kernel_rfl) (by kernel_rfl) (by kernel_rfl) (by kernel_rfl)
theorem pat_reader__between_s0_ok1 {x0 : Int} {x1 : Int} {x2 : List Int} {x3 : Int} {x4 : Int} {x5 : Int} {x6 : Int} {x7 : Int} {x8 : Int} {x9 : List St33} {x10 : Bool} {x11 : Int} {x12 : Int} {x13 : Int} {x14 : Int} {x15 : Int} {x16 : Int} {x17 : Int} {x18 : Int} {x19 : Int} {x20 : Bool} {x21 : Int} {x22 : Int} {r : Unit} (h : pat_reader__between_s0 x0 x1 x2 x3 x4 x5 x6 x7 x8 x9 x10 x11 x12 x13 x14 x15 x16 x17 x18 x19 x20 x21 x22 = some (.inr r)) : SP Try.prog 79 [.ptr 0 0, .ptr 2 0, .int .i64 x0, .int .i64 x1] [.box [lsv (encI .i32) 1 x2, .mp 1, .int .i64 x3, .int .i64 x4], mQ x5 x6 x7 x8, .box [lsv encSt33 2 x9, .nl, .nl, .nl, .bool x10, .int .i64 x11, .int .i64 x12, .int .i64 x13, .int .i64 x14, .int .i64 x15, .int .i64 x16, .int .i64 x17, .int .i64 x18, .int .i64 x19, .bool x20, .int .i32 x21, .int .i64 x22]] [.box [.undef, .mp 1, .int .i64 x3, .int .i64 x3], mQ x5 x6 x7 x8, .box [.undef, .undef, .undef, .undef, .bool x10, .int .i64 x11, .int .i64 x12, .int .i64 x13, .int .i64 x14, .int .i64 x15, .int .i64 x16, .int .i64 x17, .int .i64 x18, .int .i64 x19, .bool x20, .int .i32 x21, .int .i64 x22]] := by
 refine kFnP (fn := Try.f79) (fun F hFn hFH hFD => ?_)
 unfold pat_reader__between_s0 at h
 obtain ⟨y23, hy24, h25⟩ := bindS h
 refine K.cutX (by kernel_rfl) (fun (s22 : Unit) => ([(0, .ptr 0 0), (1, .ptr 2 0), (2, .int .i64 x0), (3, .int .i64 x1)], [.box [lsv (encI .i32) 1 x2, .mp 1, .int .i64 x3, .int .i64 x4], mQ x5 x6 x7 x8, .box [lsv encSt33 2 x9, .nl, .nl, .nl, .bool x10, .int .i64 x11, .int .i64 x12, .int .i64 x13, .int .i64 x14, .int .i64 x15, .int .i64 x16, .int .i64 x17, .int .i64 x18, .int .i64 x19, .bool x20, .int .i32 x21, .int .i64 x22]])) y23 ?_ (fun s22 hs => ?_)
 ·obtain ⟨s33, hy35, h37⟩ := bindS hy24
  refine K.cutN (by kernel_rfl) (fun (s33 : Bool) => ([(0, .ptr 0 0), (1, .ptr 2 0), (2, .int .i64 x0), (3, .int .i64 x1), (16, .bool s33)], [.box [lsv (encI .i32) 1 x2, .mp 1, .int .i64 x3, .int .i64 x4], mQ x5 x6 x7 x8, .box [lsv encSt33 2 x9, .nl, .nl, .nl, .bool x10, .int .i64 x11, .int .i64 x12, .int .i64 x13, .int .i64 x14, .int .i64 x15, .int .i64 x16, .int .i64 x17, .int .i64 x18, .int .i64 x19, .bool x20, .int .i32 x21, .int .i64 x22]])) s33 ?_ ?_
  ·refine kR ?_
   refine kC 3 [0,1,2,3,10] ?_
   refine kB 10 hy35 (fun h39 => ?_) (fun h40 => ?_)
   ·refine kC 6 [0,1,2,3,16] ?_
    refine kE ?_
    obtain rfl := oi h39
    exact kN [0, 1, 2, 3, 16]
   ·refine kC 3 [0,1,2,3,10,11,12,13] ?_
    obtain ⟨y41, hy42, h43⟩ := bindS h40
    refine kCG (some 14) (args := [.ptr 0 0, .ptr 2 0, .int .i64 x1]) (v := .bool y41) (H2 := [.box [lsv (encI .i32) 1 x2, .mp 1, .int .i64 x3, .int .i64 x4], mQ x5 x6 x7 x8, .box [lsv encSt33 2 x9, .nl, .nl, .nl, .bool x10, .int .i64 x11, .int .i64 x12, .int .i64 x13, .int .i64 x14, .int .i64 x15, .int .i64 x16, .int .i64 x17, .int .i64 x18, .int .i64 x19, .bool x20, .int .i32 x21, .int .i64 x22]]) [0, 1, 2] (pat_reader__comma_s0_ok hy42) ?_
    refine kC 2 [0,1,2,3,16] ?_
    refine kE ?_
    obtain rfl := oi h43
    exact kN [0, 1, 2, 3, 16]
  ·refine kBJ 16 h37 (fun h45 => ?_) (fun h46 => ?_)
   ·refine kT ?_
    refine kX ?_
    obtain rfl := oi h45
    have h47 := joinX_inr h25
    refine PJ.cutXr (fun e => nomatch e) ?_
    cases h47
   ·refine kF ?_
    refine kK ?_
    obtain rfl := oi h46
    exact kXl [0, 1, 2, 3]
 ·subst hs
  have h26 := joinX_inl h25
  obtain ⟨y68, hy69, h70⟩ := bindS h26
  refine K.cutX (by kernel_rfl) (fun (s67 : Unit) => ([(1, .ptr 2 0), (3, .int .i64 x1)], [.box [lsv (encI .i32) 1 x2, .mp 1, .int .i64 x3, .int .i64 x4], mQ x5 x6 x7 x8, .box [lsv encSt33 2 x9, .nl, .nl, .nl, .bool x10, .int .i64 x11, .int .i64 x12, .int .i64 x13, .int .i64 x14, .int .i64 x15, .int .i64 x16, .int .i64 x17, .int .i64 x18, .int .i64 x19, .bool x20, .int .i32 x21, .int .i64 x22]])) y68 ?_ (fun s67 hs => ?_)
  ·obtain ⟨s75, hy77, h79⟩ := bindS hy69
   refine K.cutN (by kernel_rfl) (fun (s75 : Bool) => ([(0, .ptr 0 0), (1, .ptr 2 0), (3, .int .i64 x1), (26, .bool s75)], [.box [lsv (encI .i32) 1 x2, .mp 1, .int .i64 x3, .int .i64 x4], mQ x5 x6 x7 x8, .box [lsv encSt33 2 x9, .nl, .nl, .nl, .bool x10, .int .i64 x11, .int .i64 x12, .int .i64 x13, .int .i64 x14, .int .i64 x15, .int .i64 x16, .int .i64 x17, .int .i64 x18, .int .i64 x19, .bool x20, .int .i32 x21, .int .i64 x22]])) s75 ?_ ?_
   ·refine kR ?_
    refine kC 3 [0,1,3,19] ?_
    refine kB 19 hy77 (fun h81 => ?_) (fun h82 => ?_)
    ·refine kC 7 [0,1,3,26] ?_
     refine kE ?_
     obtain rfl := oi h81
     exact kN [0, 1, 3, 26]
    ·refine kC 7 [0,1,3,26] ?_
     refine kE ?_
     obtain rfl := oi h82
     exact kN [0, 1, 3, 26]
   ·refine kBJ 26 h79 (fun h84 => ?_) (fun h85 => ?_)
    ·refine kT ?_
     refine kR ?_
     refine kC 5 [1,3,27,31] ?_
     obtain ⟨y86, hy87, h88⟩ := bindS h84
     refine RJ.callP (d := (some 32)) (f := 65) (args := [.ptr 0 0, .int .i64 x3]) (args0 := [.ptr 0 0, .int .i64 x3]) (H0 := [.box [lsv (encI .i32) 1 x2, .mp 1, .int .i64 x3, .int .i64 x4], mQ x5 x6 x7 x8]) (H0' := [.box [.undef, .mp 1, .int .i64 x3, .int .i64 x3], mQ x5 x6 x7 x8]) (H2 := [.box [.undef, .mp 1, .int .i64 x3, .int .i64 x3], mQ x5 x6 x7 x8, .box [lsv encSt33 2 x9, .nl, .nl, .nl, .bool x10, .int .i64 x11, .int .i64 x12, .int .i64 x13, .int .i64 x14, .int .i64 x15, .int .i64 x16, .int .i64 x17, .int .i64 x18, .int .i64 x19, .bool x20, .int .i32 x21, .int .i64 x22]]) [0, 1] (by kernel_rfl) (by kernel_rfl) (by kernel_rfl) (by kernel_rfl) (by decide) (by kernel_rfl) (by kernel_rfl) (by kernel_rfl) (.cons (Le.refl _) (.cons (Le.refl _) .nil)) (pat_reader__fail_s0_ok0 hy87) (by kernel_rfl) (by kernel_rfl) ?_
     obtain rfl := oi h88
     have h90 := joinX_inr h70
     refine PP.cutXr ?_
     obtain rfl := Sum.inr.inj (Option.some.inj h90)
     refine PP.wk (Wk.undefs 2 [true, true, true, true, false, false, false, false, false, false, false, false, false, false, false, false, false] (cs := [lsv encSt33 2 x9, .nl, .nl, .nl, .bool x10, .int .i64 x11, .int .i64 x12, .int .i64 x13, .int .i64 x14, .int .i64 x15, .int .i64 x16, .int .i64 x17, .int .i64 x18, .int .i64 x19, .bool x20, .int .i32 x21, .int .i64 x22]) (by kernel_rfl)) ?_
     exact K.panV (H0 := [.box [lsv (encI .i32) 1 x2, .mp 1, .int .i64 x3, .int .i64 x4], mQ x5 x6 x7 x8, .box [lsv encSt33 2 x9, .nl, .nl, .nl, .bool x10, .int .i64 x11, .int .i64 x12, .int .i64 x13, .int .i64 x14, .int .i64 x15, .int .i64 x16, .int .i64 x17, .int .i64 x18, .int .i64 x19, .bool x20, .int .i32 x21, .int .i64 x22]]) (H' := [.box [.undef, .mp 1, .int .i64 x3, .int .i64 x3], mQ x5 x6 x7 x8, .box [.undef, .undef, .undef, .undef, .bool x10, .int .i64 x11, .int .i64 x12, .int .i64 x13, .int .i64 x14, .int .i64 x15, .int .i64 x16, .int .i64 x17, .int .i64 x18, .int .i64 x19, .bool x20, .int .i32 x21, .int .i64 x22]]) [0, 1, 2] hFH hFD (by kernel_rfl) (by kernel_rfl) (by decide) (by kernel_rfl) (by kernel_rfl) (by kernel_rfl)
    ·refine kF ?_
     refine kK ?_
     obtain rfl := oi h85
     exact kXl [1, 3]
  ·subst hs
   have h71 := joinX_inl h70
   refine kR ?_
   refine kC 5 [] ?_
   refine kE ?_
   cases h71
def pat_reader__places_s0 (x0 : List Int) (x1 : Int) (x2 : Int) (x3 : Int) (x4 : Int) (x5 : Int) (x6 : Int) (x7 : List St33) (x8 : Bool) (x9 : Int) (x10 : Int) (x11 : Int) (x12 : Int) (x13 : Int) (x14 : Int) (x15 : Int) (x16 : Int) (x17 : Int) (x18 : Bool) (x19 : Int) (x20 : Int) : Option ((Int × Int × Int × Int × Int) ⊕ (Int × Int × Int × Int × Int)) :=
 (Option.bind (loopN (fun (s300 : Int × Int × Int × Int × Int × Int) => (Option.bind (Option.bind (Option.bind (pat_reader__place_s0 0 x0 s300.2.2.1 x2 x3 x4 x5 x6 x7 x8 s300.2.2.2.1 s300.2.2.2.2.1 x11 x12 x13 s300.2.2.2.2.2 x15 x16 x17 x18 x19 x20) fun y545 => (bif y545 then (some true) else (Option.bind (pat_reader__comma_s0 s300.2.1 x0 s300.2.2.1 x2 x3 x4 x5 x6 x7 x8 s300.2.2.2.1 s300.2.2.2.2.1 x11 x12 x13 s300.2.2.2.2.2 x15 x16 x17 x18 x19 x20) fun y551 => (some y551)))) fun (s540 : Bool) => (bif s540 then (some (.inl ())) else (some (.inr (.inr (.inl (s300.1, s300.2.1, s300.2.2.1, s300.2.2.2.1, s300.2.2.2.2.1, s300.2.2.2.2.2))))))) (joinX fun (s526 : Unit) => (Option.bind (pat_reader__eat_s0 44 x0 s300.2.2.1 x2 x3 x4 x5 x6) fun y560 => (bif y560.1 then (some (.inl ((IntKind.wrap .i64 (s300.1 + 1)), 0, y560.2, s300.2.2.2.1, s300.2.2.2.2.1, s300.2.2.2.2.2))) else (Option.bind (Option.bind (pat_reader__eat_s0 48 x0 y560.2 x2 x3 x4 x5 x6) fun y577 => (bif y577.1 then (some (y577.2, s300.2.2.2.1, (IntKind.wrap .i64 (s300.2.2.2.2.1 + 1)))) else (some ((IntKind.wrap .i64 (y577.2 + 1)), (IntKind.wrap .i64 (s300.2.2.2.1 + 1)), s300.2.2.2.2.1)))) fun (s572 : Int × Int × Int) => (Option.bind (pat_reader__between_s0 s300.1 (IntKind.wrap .i64 (s300.2.1 + 1)) x0 s572.1 x2 x3 x4 x5 x6 x7 x8 s572.2.1 s572.2.2 x11 x12 x13 s300.2.2.2.2.2 x15 x16 x17 x18 x19 x20) fun y583 => (Sum.elim (fun y586 => (some (.inl (s300.1, (IntKind.wrap .i64 (s300.2.1 + 1)), s572.1, s572.2.1, s572.2.2, y586)))) (fun y587 => (some (.inr (.inr (.inr (s572.1, s572.1, s572.2.1, s572.2.2, s300.2.2.2.2.2)))))) y583)))))))) big (0, 0, x1, x9, x10, x14)) (joinX fun (s295 : Int × Int × Int × Int × Int × Int) => (Option.bind (bif (decide ((IntKind.wrap .i64 (s295.2.2.2.1 + s295.2.2.2.2.1)) = 0)) then (Option.bind (pat_reader__fail_s0 s295.2.2.1 x0 s295.2.2.1 x2 x3 x4 x5 x6) fun y610 => (some (.inr (.inr (s295.2.2.1, s295.2.2.1, s295.2.2.2.1, s295.2.2.2.2.1, s295.2.2.2.2.2))))) else (some (.inl ()))) (joinX fun (s602 : Unit) => (bif (decide (s295.1 = 0)) then (some (.inl (s295.2.2.1, s295.2.2.2.1, s295.2.2.2.2.1, x13, s295.2.2.2.2.2))) else (bif (decide (s295.1 = 1)) then (some (.inl (s295.2.2.1, s295.2.2.2.1, s295.2.2.2.2.1, s295.2.1, s295.2.1))) else (some (.inl (s295.2.2.1, s295.2.2.2.1, s295.2.2.2.2.1, s295.2.1, s295.2.2.2.2.2)))))))))
theorem pat_reader__places_s0_ok0 {x0 : List Int} {x1 : Int} {x2 : Int} {x3 : Int} {x4 : Int} {x5 : Int} {x6 : Int} {x7 : List St33} {x8 : Bool} {x9 : Int} {x10 : Int} {x11 : Int} {x12 : Int} {x13 : Int} {x14 : Int} {x15 : Int} {x16 : Int} {x17 : Int} {x18 : Bool} {x19 : Int} {x20 : Int} {r : Int × Int × Int × Int × Int} (h : pat_reader__places_s0 x0 x1 x2 x3 x4 x5 x6 x7 x8 x9 x10 x11 x12 x13 x14 x15 x16 x17 x18 x19 x20 = some (.inl r)) : SC Try.prog 74 [.ptr 0 0, .ptr 2 0] [.box [lsv (encI .i32) 1 x0, .mp 1, .int .i64 x1, .int .i64 x2], mQ x3 x4 x5 x6, .box [lsv encSt33 2 x7, .nl, .nl, .nl, .bool x8, .int .i64 x9, .int .i64 x10, .int .i64 x11, .int .i64 x12, .int .i64 x13, .int .i64 x14, .int .i64 x15, .int .i64 x16, .int .i64 x17, .bool x18, .int .i32 x19, .int .i64 x20]] (.tup []) [.box [lsv (encI .i32) 1 x0, .mp 1, .int .i64 r.1, .int .i64 x2], mQ x3 x4 x5 x6, .box [lsv encSt33 2 x7, .nl, .nl, .nl, .bool x8, .int .i64 r.2.1, .int .i64 r.2.2.1, .int .i64 x11, .int .i64 x12, .int .i64 r.2.2.2.1, .int .i64 r.2.2.2.2, .int .i64 x15, .int .i64 x16, .int .i64 x17, .bool x18, .int .i32 x19, .int .i64 x20]] := by
 refine kFn (fn := Try.f74) (fun F hFn hFH hFD => ?_)
 unfold pat_reader__places_s0 at h
 refine kSR ?_
 refine kC 2 [0,1,4,5] ?_
 refine kEN ?_
 obtain ⟨y296, hy297, h298⟩ := bindS h
 refine K.cutX (by kernel_rfl) (fun (s295 : Int × Int × Int × Int × Int × Int) => ([(0, .ptr 0 0), (1, .ptr 2 0), (4, .int .i64 s295.1), (5, .int .i64 s295.2.1)], [.box [lsv (encI .i32) 1 x0, .mp 1, .int .i64 s295.2.2.1, .int .i64 x2], mQ x3 x4 x5 x6, .box [lsv encSt33 2 x7, .nl, .nl, .nl, .bool x8, .int .i64 s295.2.2.2.1, .int .i64 s295.2.2.2.2.1, .int .i64 x11, .int .i64 x12, .int .i64 x13, .int .i64 s295.2.2.2.2.2, .int .i64 x15, .int .i64 x16, .int .i64 x17, .bool x18, .int .i32 x19, .int .i64 x20]])) y296 ?_ (fun s295 hs => ?_)
 ·refine kb 0 ?_
  refine kl (fun (s300 : Int × Int × Int × Int × Int × Int) => ([(0, .ptr 0 0), (1, .ptr 2 0), (4, .int .i64 s300.1), (5, .int .i64 s300.2.1)], [.box [lsv (encI .i32) 1 x0, .mp 1, .int .i64 s300.2.2.1, .int .i64 x2], mQ x3 x4 x5 x6, .box [lsv encSt33 2 x7, .nl, .nl, .nl, .bool x8, .int .i64 s300.2.2.2.1, .int .i64 s300.2.2.2.2.1, .int .i64 x11, .int .i64 x12, .int .i64 x13, .int .i64 s300.2.2.2.2.2, .int .i64 x15, .int .i64 x16, .int .i64 x17, .bool x18, .int .i32 x19, .int .i64 x20]])) hy297 [0, 1, 4, 5] (fun s300 x496 hs495 => ?_)
  obtain ⟨y527, hy528, h529⟩ := bindS hs495
  refine K.cutX (by kernel_rfl) (fun (s526 : Unit) => ([(0, .ptr 0 0), (1, .ptr 2 0), (4, .int .i64 s300.1), (5, .int .i64 s300.2.1)], [.box [lsv (encI .i32) 1 x0, .mp 1, .int .i64 s300.2.2.1, .int .i64 x2], mQ x3 x4 x5 x6, .box [lsv encSt33 2 x7, .nl, .nl, .nl, .bool x8, .int .i64 s300.2.2.2.1, .int .i64 s300.2.2.2.2.1, .int .i64 x11, .int .i64 x12, .int .i64 x13, .int .i64 s300.2.2.2.2.2, .int .i64 x15, .int .i64 x16, .int .i64 x17, .bool x18, .int .i32 x19, .int .i64 x20]])) y527 ?_ (fun s526 hs => ?_)
  ·obtain ⟨s540, hy542, h544⟩ := bindS hy528
   refine K.cutN (by kernel_rfl) (fun (s540 : Bool) => ([(0, .ptr 0 0), (1, .ptr 2 0), (4, .int .i64 s300.1), (5, .int .i64 s300.2.1), (14, .bool s540)], [.box [lsv (encI .i32) 1 x0, .mp 1, .int .i64 s300.2.2.1, .int .i64 x2], mQ x3 x4 x5 x6, .box [lsv encSt33 2 x7, .nl, .nl, .nl, .bool x8, .int .i64 s300.2.2.2.1, .int .i64 s300.2.2.2.2.1, .int .i64 x11, .int .i64 x12, .int .i64 x13, .int .i64 s300.2.2.2.2.2, .int .i64 x15, .int .i64 x16, .int .i64 x17, .bool x18, .int .i32 x19, .int .i64 x20]])) s540 ?_ ?_
   ·refine kR ?_
    refine kC 2 [0,1,4,5,6,7] ?_
    obtain ⟨y545, hy546, h547⟩ := bindS hy542
    refine kCG (some 8) (args := [.ptr 0 0, .ptr 2 0, .int .i64 0]) (v := .bool y545) (H2 := [.box [lsv (encI .i32) 1 x0, .mp 1, .int .i64 s300.2.2.1, .int .i64 x2], mQ x3 x4 x5 x6, .box [lsv encSt33 2 x7, .nl, .nl, .nl, .bool x8, .int .i64 s300.2.2.2.1, .int .i64 s300.2.2.2.2.1, .int .i64 x11, .int .i64 x12, .int .i64 x13, .int .i64 s300.2.2.2.2.2, .int .i64 x15, .int .i64 x16, .int .i64 x17, .bool x18, .int .i32 x19, .int .i64 x20]]) [0, 1, 2] (pat_reader__place_s0_ok hy546) ?_
    refine kC 1 [0,1,4,5,9] ?_
    refine kB 9 h547 (fun h549 => ?_) (fun h550 => ?_)
    ·refine kC 5 [0,1,4,5,14] ?_
     refine kE ?_
     obtain rfl := oi h549
     exact kN [0, 1, 4, 5, 14]
    ·refine kC 3 [0,1,4,5,9,10,11,12] ?_
     obtain ⟨y551, hy552, h553⟩ := bindS h550
     refine kCG (some 13) (args := [.ptr 0 0, .ptr 2 0, .int .i64 s300.2.1]) (v := .bool y551) (H2 := [.box [lsv (encI .i32) 1 x0, .mp 1, .int .i64 s300.2.2.1, .int .i64 x2], mQ x3 x4 x5 x6, .box [lsv encSt33 2 x7, .nl, .nl, .nl, .bool x8, .int .i64 s300.2.2.2.1, .int .i64 s300.2.2.2.2.1, .int .i64 x11, .int .i64 x12, .int .i64 x13, .int .i64 s300.2.2.2.2.2, .int .i64 x15, .int .i64 x16, .int .i64 x17, .bool x18, .int .i32 x19, .int .i64 x20]]) [0, 1, 2] (pat_reader__comma_s0_ok hy552) ?_
     refine kC 1 [0,1,4,5,14] ?_
     refine kE ?_
     obtain rfl := oi h553
     exact kN [0, 1, 4, 5, 14]
   ·refine kBJ 14 h544 (fun h555 => ?_) (fun h556 => ?_)
    ·refine kT ?_
     refine kK ?_
     obtain rfl := oi h555
     exact kXl [0, 1, 4, 5]
    ·refine kF ?_
     refine K.exit 0 (by kernel_rfl) ?_
     obtain rfl := oi h556
     have h557 := joinX_inr h529
     refine PJ.cutXr (fun e => nomatch e) ?_
     obtain rfl := oi h557
     refine PJ.loopOut (fun e => nomatch e) (fun he559 => ?_)
     have h558 := congrArg some he559
     refine PJ.blockOut ?_
     obtain rfl := oi h558
     exact kXl [0, 1, 4, 5]
  ·subst hs
   have h530 := joinX_inl h529
   refine kb 1 ?_
   refine kS ?_
   refine kSR ?_
   refine kC 1 [0,1,4,5,15] ?_
   obtain ⟨y560, hy561, h562⟩ := bindS h530
   refine kCG (some 16) (args := [.ptr 0 0, .int .i32 44]) (v := .bool y560.1) (H2 := [.box [lsv (encI .i32) 1 x0, .mp 1, .int .i64 y560.2, .int .i64 x2], mQ x3 x4 x5 x6, .box [lsv encSt33 2 x7, .nl, .nl, .nl, .bool x8, .int .i64 s300.2.2.2.1, .int .i64 s300.2.2.2.2.1, .int .i64 x11, .int .i64 x12, .int .i64 x13, .int .i64 s300.2.2.2.2.2, .int .i64 x15, .int .i64 x16, .int .i64 x17, .bool x18, .int .i32 x19, .int .i64 x20]]) [0, 1] (pat_reader__eat_s0_ok hy561) ?_
   refine kEN ?_
   refine kBJ 16 h562 (fun h564 => ?_) (fun h565 => ?_)
   ·refine kT ?_
    refine kSR ?_
    refine kC 3 [0,1,4,5] ?_
    refine kEN ?_
    refine kSR ?_
    refine kC 1 [0,1,4,5] ?_
    refine kEN ?_
    refine K.exit 1 (by kernel_rfl) ?_
    refine PJ.passExit ?_
    refine PJ.blockOut ?_
    obtain rfl := oi h564
    exact kLN [0, 1, 4, 5]
   ·refine kF ?_
    refine kK ?_
    refine PJ.next ?_
    obtain ⟨s572, hy574, h576⟩ := bindS h565
    refine K.cutN (by kernel_rfl) (fun (s572 : Int × Int × Int) => ([(0, .ptr 0 0), (1, .ptr 2 0), (4, .int .i64 s300.1), (5, .int .i64 s300.2.1)], [.box [lsv (encI .i32) 1 x0, .mp 1, .int .i64 s572.1, .int .i64 x2], mQ x3 x4 x5 x6, .box [lsv encSt33 2 x7, .nl, .nl, .nl, .bool x8, .int .i64 s572.2.1, .int .i64 s572.2.2, .int .i64 x11, .int .i64 x12, .int .i64 x13, .int .i64 s300.2.2.2.2.2, .int .i64 x15, .int .i64 x16, .int .i64 x17, .bool x18, .int .i32 x19, .int .i64 x20]])) s572 ?_ ?_
    ·refine kSR ?_
     refine kC 1 [0,1,4,5,19] ?_
     obtain ⟨y577, hy578, h579⟩ := bindS hy574
     refine kCG (some 20) (args := [.ptr 0 0, .int .i32 48]) (v := .bool y577.1) (H2 := [.box [lsv (encI .i32) 1 x0, .mp 1, .int .i64 y577.2, .int .i64 x2], mQ x3 x4 x5 x6, .box [lsv encSt33 2 x7, .nl, .nl, .nl, .bool x8, .int .i64 s300.2.2.2.1, .int .i64 s300.2.2.2.2.1, .int .i64 x11, .int .i64 x12, .int .i64 x13, .int .i64 s300.2.2.2.2.2, .int .i64 x15, .int .i64 x16, .int .i64 x17, .bool x18, .int .i32 x19, .int .i64 x20]]) [0, 1] (pat_reader__eat_s0_ok hy578) ?_
     refine kEN ?_
     refine kBJ 20 h579 (fun h581 => ?_) (fun h582 => ?_)
     ·refine kT ?_
      refine kR ?_
      refine kC 8 [0,1,4,5] ?_
      refine kE ?_
      obtain rfl := oi h581
      exact kN [0, 1, 4, 5]
     ·refine kF ?_
      refine kSR ?_
      refine kC 8 [0,1,4,5] ?_
      refine kEN ?_
      refine kR ?_
      refine kC 8 [0,1,4,5] ?_
      refine kE ?_
      obtain rfl := oi h582
      exact kN [0, 1, 4, 5]
    ·refine kSR ?_
     refine kC 3 [0,1,4,5] ?_
     refine kEN ?_
     refine kR ?_
     refine kC 4 [0,1,4,5,44,45,46,47] ?_
     obtain ⟨y583, hy584, h585⟩ := bindS h576
     rcases y583 with y586 | y587
     ·have h588 := elimL h585
      refine kCG (some 48) (args := [.ptr 0 0, .ptr 2 0, .int .i64 s300.1, .int .i64 (IntKind.wrap .i64 (s300.2.1 + 1))]) (v := .tup []) (H2 := [.box [lsv (encI .i32) 1 x0, .mp 1, .int .i64 s572.1, .int .i64 x2], mQ x3 x4 x5 x6, .box [lsv encSt33 2 x7, .nl, .nl, .nl, .bool x8, .int .i64 s572.2.1, .int .i64 s572.2.2, .int .i64 x11, .int .i64 x12, .int .i64 x13, .int .i64 y586, .int .i64 x15, .int .i64 x16, .int .i64 x17, .bool x18, .int .i32 x19, .int .i64 x20]]) [0, 1, 2] (pat_reader__between_s0_ok0 hy584) ?_
      refine kE ?_
      refine PJ.blockNormal ?_
      obtain rfl := oi h588
      exact kLN [0, 1, 4, 5]
     ·have h589 := elimR h585
      refine RJ.callP (d := (some 48)) (f := 79) (args := [.ptr 0 0, .ptr 2 0, .int .i64 s300.1, .int .i64 (IntKind.wrap .i64 (s300.2.1 + 1))]) (args0 := [.ptr 0 0, .ptr 2 0, .int .i64 s300.1, .int .i64 (IntKind.wrap .i64 (s300.2.1 + 1))]) (H0 := [.box [lsv (encI .i32) 1 x0, .mp 1, .int .i64 s572.1, .int .i64 x2], mQ x3 x4 x5 x6, .box [lsv encSt33 2 x7, .nl, .nl, .nl, .bool x8, .int .i64 s572.2.1, .int .i64 s572.2.2, .int .i64 x11, .int .i64 x12, .int .i64 x13, .int .i64 s300.2.2.2.2.2, .int .i64 x15, .int .i64 x16, .int .i64 x17, .bool x18, .int .i32 x19, .int .i64 x20]]) (H0' := [.box [.undef, .mp 1, .int .i64 s572.1, .int .i64 s572.1], mQ x3 x4 x5 x6, .box [.undef, .undef, .undef, .undef, .bool x8, .int .i64 s572.2.1, .int .i64 s572.2.2, .int .i64 x11, .int .i64 x12, .int .i64 x13, .int .i64 s300.2.2.2.2.2, .int .i64 x15, .int .i64 x16, .int .i64 x17, .bool x18, .int .i32 x19, .int .i64 x20]]) (H2 := [.box [.undef, .mp 1, .int .i64 s572.1, .int .i64 s572.1], mQ x3 x4 x5 x6, .box [.undef, .undef, .undef, .undef, .bool x8, .int .i64 s572.2.1, .int .i64 s572.2.2, .int .i64 x11, .int .i64 x12, .int .i64 x13, .int .i64 s300.2.2.2.2.2, .int .i64 x15, .int .i64 x16, .int .i64 x17, .bool x18, .int .i32 x19, .int .i64 x20]]) [0, 1, 2] (by kernel_rfl) (by kernel_rfl) (by kernel_rfl) (by kernel_rfl) (by decide) (by kernel_rfl) (by kernel_rfl) (by kernel_rfl) (.cons (Le.refl _) (.cons (Le.refl _) (.cons (Le.refl _) (.cons (Le.refl _) .nil)))) (pat_reader__between_s0_ok1 hy584) (by kernel_rfl) (by kernel_rfl) ?_
      refine PP.block ?_
      obtain rfl := oi h589
      refine PP.loopOut (fun he593 => ?_)
      have h591 := congrArg some he593
      refine PP.block ?_
      obtain rfl := oi h591
      have h592 := joinX_inr h298
      refine PP.cutXr ?_
      cases h592
 ·subst hs
  have h299 := joinX_inl h298
  obtain ⟨y603, hy604, h605⟩ := bindS h299
  refine K.cutX (by kernel_rfl) (fun (s602 : Unit) => ([(1, .ptr 2 0), (4, .int .i64 s295.1), (5, .int .i64 s295.2.1)], [.box [lsv (encI .i32) 1 x0, .mp 1, .int .i64 s295.2.2.1, .int .i64 x2], mQ x3 x4 x5 x6, .box [lsv encSt33 2 x7, .nl, .nl, .nl, .bool x8, .int .i64 s295.2.2.2.1, .int .i64 s295.2.2.2.2.1, .int .i64 x11, .int .i64 x12, .int .i64 x13, .int .i64 s295.2.2.2.2.2, .int .i64 x15, .int .i64 x16, .int .i64 x17, .bool x18, .int .i32 x19, .int .i64 x20]])) y603 ?_ (fun s602 hs => ?_)
  ·refine kS ?_
   refine J.keep [0, 1, 4, 5] (L2 := [(0, .ptr 0 0), (1, .ptr 2 0), (4, .int .i64 s295.1), (5, .int .i64 s295.2.1)]) (by kernel_rfl) ?_
   refine K.draw (by kernel_rfl) (by kernel_rfl) (by kernel_rfl) (H2 := [.box [lsv (encI .i32) 1 x0, .mp 1, .int .i64 s295.2.2.1, .int .i64 x2], mQ x3 x4 x5 x6, .box [lsv encSt33 2 x7, .nl, .nl, .nl, .bool x8, .int .i64 s295.2.2.2.1, .int .i64 s295.2.2.2.2.1, .int .i64 x11, .int .i64 x12, .int .i64 x13, .int .i64 s295.2.2.2.2.2, .int .i64 x15, .int .i64 x16, .int .i64 x17, .bool x18, .int .i32 x19, .int .i64 x20]]) (by kernel_rfl) (n := 3) (by kernel_rfl) ?_
   refine kD 10 ?_
   refine kEN ?_
   refine kBJ 58 hy604 (fun h608 => ?_) (fun h609 => ?_)
   ·refine kT ?_
    refine kR ?_
    refine kC 5 [1,4,5,59,63] ?_
    obtain ⟨y610, hy611, h612⟩ := bindS h608
    refine RJ.callP (d := (some 64)) (f := 65) (args := [.ptr 0 0, .int .i64 s295.2.2.1]) (args0 := [.ptr 0 0, .int .i64 s295.2.2.1]) (H0 := [.box [lsv (encI .i32) 1 x0, .mp 1, .int .i64 s295.2.2.1, .int .i64 x2], mQ x3 x4 x5 x6]) (H0' := [.box [.undef, .mp 1, .int .i64 s295.2.2.1, .int .i64 s295.2.2.1], mQ x3 x4 x5 x6]) (H2 := [.box [.undef, .mp 1, .int .i64 s295.2.2.1, .int .i64 s295.2.2.1], mQ x3 x4 x5 x6, .box [lsv encSt33 2 x7, .nl, .nl, .nl, .bool x8, .int .i64 s295.2.2.2.1, .int .i64 s295.2.2.2.2.1, .int .i64 x11, .int .i64 x12, .int .i64 x13, .int .i64 s295.2.2.2.2.2, .int .i64 x15, .int .i64 x16, .int .i64 x17, .bool x18, .int .i32 x19, .int .i64 x20]]) [0, 1] (by kernel_rfl) (by kernel_rfl) (by kernel_rfl) (by kernel_rfl) (by decide) (by kernel_rfl) (by kernel_rfl) (by kernel_rfl) (.cons (Le.refl _) (.cons (Le.refl _) .nil)) (pat_reader__fail_s0_ok0 hy611) (by kernel_rfl) (by kernel_rfl) ?_
    obtain rfl := oi h612
    have h614 := joinX_inr h605
    refine PP.cutXr ?_
    cases h614
   ·refine kF ?_
    refine kK ?_
    obtain rfl := oi h609
    exact kXl [1, 4, 5]
  ·subst hs
   have h606 := joinX_inl h605
   refine kSR ?_
   refine kC 1 [1,5,65] ?_
   refine kEN ?_
   refine kb 2 ?_
   refine kSR ?_
   refine kC 2 [1,5,65,70] ?_
   refine kEN ?_
   refine kBJ 70 h606 (fun h616 => ?_) (fun h617 => ?_)
   ·refine kT ?_
    refine kK ?_
    refine PJ.blockNormal ?_
    obtain rfl := Sum.inl.inj (Option.some.inj h616)
    exact K.retV (H0 := [.box [lsv (encI .i32) 1 x0, .mp 1, .int .i64 x1, .int .i64 x2], mQ x3 x4 x5 x6, .box [lsv encSt33 2 x7, .nl, .nl, .nl, .bool x8, .int .i64 x9, .int .i64 x10, .int .i64 x11, .int .i64 x12, .int .i64 x13, .int .i64 x14, .int .i64 x15, .int .i64 x16, .int .i64 x17, .bool x18, .int .i32 x19, .int .i64 x20]]) [0, 1, 2] (.inl rfl) hFn hFH hFD (by kernel_rfl) (v1 := .tup []) (by kernel_rfl) (by kernel_rfl) (by kernel_rfl) (by decide) (by kernel_rfl) (by kernel_rfl) (by kernel_rfl) (by kernel_rfl) (by kernel_rfl)
   ·refine kF ?_
    refine kSR ?_
    refine kC 2 [1,5,72] ?_
    refine kEN ?_
    refine kBJ 72 h617 (fun h619 => ?_) (fun h620 => ?_)
    ·refine kT ?_
     refine kR ?_
     refine kC 10 [] ?_
     refine kE ?_
     refine PJ.blockNormal ?_
     obtain rfl := Sum.inl.inj (Option.some.inj h619)
     exact K.retV (H0 := [.box [lsv (encI .i32) 1 x0, .mp 1, .int .i64 x1, .int .i64 x2], mQ x3 x4 x5 x6, .box [lsv encSt33 2 x7, .nl, .nl, .nl, .bool x8, .int .i64 x9, .int .i64 x10, .int .i64 x11, .int .i64 x12, .int .i64 x13, .int .i64 x14, .int .i64 x15, .int .i64 x16, .int .i64 x17, .bool x18, .int .i32 x19, .int .i64 x20]]) [0, 1, 2] (.inl rfl) hFn hFH hFD (by kernel_rfl) (v1 := .tup []) (by kernel_rfl) (by kernel_rfl) (by kernel_rfl) (by decide) (by kernel_rfl) (by kernel_rfl) (by kernel_rfl) (by kernel_rfl) (by kernel_rfl)
    ·refine kF ?_
     refine kR ?_
     refine kC 5 [] ?_
     refine kE ?_
     refine PJ.blockNormal ?_
     obtain rfl := Sum.inl.inj (Option.some.inj h620)
     exact K.retV (H0 := [.box [lsv (encI .i32) 1 x0, .mp 1, .int .i64 x1, .int .i64 x2], mQ x3 x4 x5 x6, .box [lsv encSt33 2 x7, .nl, .nl, .nl, .bool x8, .int .i64 x9, .int .i64 x10, .int .i64 x11, .int .i64 x12, .int .i64 x13, .int .i64 x14, .int .i64 x15, .int .i64 x16, .int .i64 x17, .bool x18, .int .i32 x19, .int .i64 x20]]) [0, 1, 2] (.inl rfl) hFn hFH hFD (by kernel_rfl) (v1 := .tup []) (by kernel_rfl) (by kernel_rfl) (by kernel_rfl) (by decide) (by kernel_rfl) (by kernel_rfl) (by kernel_rfl) (by kernel_rfl) (by kernel_rfl)
theorem pat_reader__places_s0_ok1 {x0 : List Int} {x1 : Int} {x2 : Int} {x3 : Int} {x4 : Int} {x5 : Int} {x6 : Int} {x7 : List St33} {x8 : Bool} {x9 : Int} {x10 : Int} {x11 : Int} {x12 : Int} {x13 : Int} {x14 : Int} {x15 : Int} {x16 : Int} {x17 : Int} {x18 : Bool} {x19 : Int} {x20 : Int} {r : Int × Int × Int × Int × Int} (h : pat_reader__places_s0 x0 x1 x2 x3 x4 x5 x6 x7 x8 x9 x10 x11 x12 x13 x14 x15 x16 x17 x18 x19 x20 = some (.inr r)) : SP Try.prog 74 [.ptr 0 0, .ptr 2 0] [.box [lsv (encI .i32) 1 x0, .mp 1, .int .i64 x1, .int .i64 x2], mQ x3 x4 x5 x6, .box [lsv encSt33 2 x7, .nl, .nl, .nl, .bool x8, .int .i64 x9, .int .i64 x10, .int .i64 x11, .int .i64 x12, .int .i64 x13, .int .i64 x14, .int .i64 x15, .int .i64 x16, .int .i64 x17, .bool x18, .int .i32 x19, .int .i64 x20]] [.box [.undef, .mp 1, .int .i64 r.1, .int .i64 r.2.1], mQ x3 x4 x5 x6, .box [.undef, .undef, .undef, .undef, .bool x8, .int .i64 r.2.2.1, .int .i64 r.2.2.2.1, .int .i64 x11, .int .i64 x12, .int .i64 x13, .int .i64 r.2.2.2.2, .int .i64 x15, .int .i64 x16, .int .i64 x17, .bool x18, .int .i32 x19, .int .i64 x20]] := by
 refine kFnP (fn := Try.f74) (fun F hFn hFH hFD => ?_)
 unfold pat_reader__places_s0 at h
 refine kSR ?_
 refine kC 2 [0,1,4,5] ?_
 refine kEN ?_
 obtain ⟨y296, hy297, h298⟩ := bindS h
 refine K.cutX (by kernel_rfl) (fun (s295 : Int × Int × Int × Int × Int × Int) => ([(0, .ptr 0 0), (1, .ptr 2 0), (4, .int .i64 s295.1), (5, .int .i64 s295.2.1)], [.box [lsv (encI .i32) 1 x0, .mp 1, .int .i64 s295.2.2.1, .int .i64 x2], mQ x3 x4 x5 x6, .box [lsv encSt33 2 x7, .nl, .nl, .nl, .bool x8, .int .i64 s295.2.2.2.1, .int .i64 s295.2.2.2.2.1, .int .i64 x11, .int .i64 x12, .int .i64 x13, .int .i64 s295.2.2.2.2.2, .int .i64 x15, .int .i64 x16, .int .i64 x17, .bool x18, .int .i32 x19, .int .i64 x20]])) y296 ?_ (fun s295 hs => ?_)
 ·refine kb 0 ?_
  refine kl (fun (s300 : Int × Int × Int × Int × Int × Int) => ([(0, .ptr 0 0), (1, .ptr 2 0), (4, .int .i64 s300.1), (5, .int .i64 s300.2.1)], [.box [lsv (encI .i32) 1 x0, .mp 1, .int .i64 s300.2.2.1, .int .i64 x2], mQ x3 x4 x5 x6, .box [lsv encSt33 2 x7, .nl, .nl, .nl, .bool x8, .int .i64 s300.2.2.2.1, .int .i64 s300.2.2.2.2.1, .int .i64 x11, .int .i64 x12, .int .i64 x13, .int .i64 s300.2.2.2.2.2, .int .i64 x15, .int .i64 x16, .int .i64 x17, .bool x18, .int .i32 x19, .int .i64 x20]])) hy297 [0, 1, 4, 5] (fun s300 x496 hs495 => ?_)
  obtain ⟨y527, hy528, h529⟩ := bindS hs495
  refine K.cutX (by kernel_rfl) (fun (s526 : Unit) => ([(0, .ptr 0 0), (1, .ptr 2 0), (4, .int .i64 s300.1), (5, .int .i64 s300.2.1)], [.box [lsv (encI .i32) 1 x0, .mp 1, .int .i64 s300.2.2.1, .int .i64 x2], mQ x3 x4 x5 x6, .box [lsv encSt33 2 x7, .nl, .nl, .nl, .bool x8, .int .i64 s300.2.2.2.1, .int .i64 s300.2.2.2.2.1, .int .i64 x11, .int .i64 x12, .int .i64 x13, .int .i64 s300.2.2.2.2.2, .int .i64 x15, .int .i64 x16, .int .i64 x17, .bool x18, .int .i32 x19, .int .i64 x20]])) y527 ?_ (fun s526 hs => ?_)
  ·obtain ⟨s540, hy542, h544⟩ := bindS hy528
   refine K.cutN (by kernel_rfl) (fun (s540 : Bool) => ([(0, .ptr 0 0), (1, .ptr 2 0), (4, .int .i64 s300.1), (5, .int .i64 s300.2.1), (14, .bool s540)], [.box [lsv (encI .i32) 1 x0, .mp 1, .int .i64 s300.2.2.1, .int .i64 x2], mQ x3 x4 x5 x6, .box [lsv encSt33 2 x7, .nl, .nl, .nl, .bool x8, .int .i64 s300.2.2.2.1, .int .i64 s300.2.2.2.2.1, .int .i64 x11, .int .i64 x12, .int .i64 x13, .int .i64 s300.2.2.2.2.2, .int .i64 x15, .int .i64 x16, .int .i64 x17, .bool x18, .int .i32 x19, .int .i64 x20]])) s540 ?_ ?_
   ·refine kR ?_
    refine kC 2 [0,1,4,5,6,7] ?_
    obtain ⟨y545, hy546, h547⟩ := bindS hy542
    refine kCG (some 8) (args := [.ptr 0 0, .ptr 2 0, .int .i64 0]) (v := .bool y545) (H2 := [.box [lsv (encI .i32) 1 x0, .mp 1, .int .i64 s300.2.2.1, .int .i64 x2], mQ x3 x4 x5 x6, .box [lsv encSt33 2 x7, .nl, .nl, .nl, .bool x8, .int .i64 s300.2.2.2.1, .int .i64 s300.2.2.2.2.1, .int .i64 x11, .int .i64 x12, .int .i64 x13, .int .i64 s300.2.2.2.2.2, .int .i64 x15, .int .i64 x16, .int .i64 x17, .bool x18, .int .i32 x19, .int .i64 x20]]) [0, 1, 2] (pat_reader__place_s0_ok hy546) ?_
    refine kC 1 [0,1,4,5,9] ?_
    refine kB 9 h547 (fun h549 => ?_) (fun h550 => ?_)
    ·refine kC 5 [0,1,4,5,14] ?_
     refine kE ?_
     obtain rfl := oi h549
     exact kN [0, 1, 4, 5, 14]
    ·refine kC 3 [0,1,4,5,9,10,11,12] ?_
     obtain ⟨y551, hy552, h553⟩ := bindS h550
     refine kCG (some 13) (args := [.ptr 0 0, .ptr 2 0, .int .i64 s300.2.1]) (v := .bool y551) (H2 := [.box [lsv (encI .i32) 1 x0, .mp 1, .int .i64 s300.2.2.1, .int .i64 x2], mQ x3 x4 x5 x6, .box [lsv encSt33 2 x7, .nl, .nl, .nl, .bool x8, .int .i64 s300.2.2.2.1, .int .i64 s300.2.2.2.2.1, .int .i64 x11, .int .i64 x12, .int .i64 x13, .int .i64 s300.2.2.2.2.2, .int .i64 x15, .int .i64 x16, .int .i64 x17, .bool x18, .int .i32 x19, .int .i64 x20]]) [0, 1, 2] (pat_reader__comma_s0_ok hy552) ?_
     refine kC 1 [0,1,4,5,14] ?_
     refine kE ?_
     obtain rfl := oi h553
     exact kN [0, 1, 4, 5, 14]
   ·refine kBJ 14 h544 (fun h555 => ?_) (fun h556 => ?_)
    ·refine kT ?_
     refine kK ?_
     obtain rfl := oi h555
     exact kXl [0, 1, 4, 5]
    ·refine kF ?_
     refine K.exit 0 (by kernel_rfl) ?_
     obtain rfl := oi h556
     have h557 := joinX_inr h529
     refine PJ.cutXr (fun e => nomatch e) ?_
     obtain rfl := oi h557
     refine PJ.loopOut (fun e => nomatch e) (fun he559 => ?_)
     have h558 := congrArg some he559
     refine PJ.blockOut ?_
     obtain rfl := oi h558
     exact kXl [0, 1, 4, 5]
  ·subst hs
   have h530 := joinX_inl h529
   refine kb 1 ?_
   refine kS ?_
   refine kSR ?_
   refine kC 1 [0,1,4,5,15] ?_
   obtain ⟨y560, hy561, h562⟩ := bindS h530
   refine kCG (some 16) (args := [.ptr 0 0, .int .i32 44]) (v := .bool y560.1) (H2 := [.box [lsv (encI .i32) 1 x0, .mp 1, .int .i64 y560.2, .int .i64 x2], mQ x3 x4 x5 x6, .box [lsv encSt33 2 x7, .nl, .nl, .nl, .bool x8, .int .i64 s300.2.2.2.1, .int .i64 s300.2.2.2.2.1, .int .i64 x11, .int .i64 x12, .int .i64 x13, .int .i64 s300.2.2.2.2.2, .int .i64 x15, .int .i64 x16, .int .i64 x17, .bool x18, .int .i32 x19, .int .i64 x20]]) [0, 1] (pat_reader__eat_s0_ok hy561) ?_
   refine kEN ?_
   refine kBJ 16 h562 (fun h564 => ?_) (fun h565 => ?_)
   ·refine kT ?_
    refine kSR ?_
    refine kC 3 [0,1,4,5] ?_
    refine kEN ?_
    refine kSR ?_
    refine kC 1 [0,1,4,5] ?_
    refine kEN ?_
    refine K.exit 1 (by kernel_rfl) ?_
    refine PJ.passExit ?_
    refine PJ.blockOut ?_
    obtain rfl := oi h564
    exact kLN [0, 1, 4, 5]
   ·refine kF ?_
    refine kK ?_
    refine PJ.next ?_
    obtain ⟨s572, hy574, h576⟩ := bindS h565
    refine K.cutN (by kernel_rfl) (fun (s572 : Int × Int × Int) => ([(0, .ptr 0 0), (1, .ptr 2 0), (4, .int .i64 s300.1), (5, .int .i64 s300.2.1)], [.box [lsv (encI .i32) 1 x0, .mp 1, .int .i64 s572.1, .int .i64 x2], mQ x3 x4 x5 x6, .box [lsv encSt33 2 x7, .nl, .nl, .nl, .bool x8, .int .i64 s572.2.1, .int .i64 s572.2.2, .int .i64 x11, .int .i64 x12, .int .i64 x13, .int .i64 s300.2.2.2.2.2, .int .i64 x15, .int .i64 x16, .int .i64 x17, .bool x18, .int .i32 x19, .int .i64 x20]])) s572 ?_ ?_
    ·refine kSR ?_
     refine kC 1 [0,1,4,5,19] ?_
     obtain ⟨y577, hy578, h579⟩ := bindS hy574
     refine kCG (some 20) (args := [.ptr 0 0, .int .i32 48]) (v := .bool y577.1) (H2 := [.box [lsv (encI .i32) 1 x0, .mp 1, .int .i64 y577.2, .int .i64 x2], mQ x3 x4 x5 x6, .box [lsv encSt33 2 x7, .nl, .nl, .nl, .bool x8, .int .i64 s300.2.2.2.1, .int .i64 s300.2.2.2.2.1, .int .i64 x11, .int .i64 x12, .int .i64 x13, .int .i64 s300.2.2.2.2.2, .int .i64 x15, .int .i64 x16, .int .i64 x17, .bool x18, .int .i32 x19, .int .i64 x20]]) [0, 1] (pat_reader__eat_s0_ok hy578) ?_
     refine kEN ?_
     refine kBJ 20 h579 (fun h581 => ?_) (fun h582 => ?_)
     ·refine kT ?_
      refine kR ?_
      refine kC 8 [0,1,4,5] ?_
      refine kE ?_
      obtain rfl := oi h581
      exact kN [0, 1, 4, 5]
     ·refine kF ?_
      refine kSR ?_
      refine kC 8 [0,1,4,5] ?_
      refine kEN ?_
      refine kR ?_
      refine kC 8 [0,1,4,5] ?_
      refine kE ?_
      obtain rfl := oi h582
      exact kN [0, 1, 4, 5]
    ·refine kSR ?_
     refine kC 3 [0,1,4,5] ?_
     refine kEN ?_
     refine kR ?_
     refine kC 4 [0,1,4,5,44,45,46,47] ?_
     obtain ⟨y583, hy584, h585⟩ := bindS h576
     rcases y583 with y586 | y587
     ·have h588 := elimL h585
      refine kCG (some 48) (args := [.ptr 0 0, .ptr 2 0, .int .i64 s300.1, .int .i64 (IntKind.wrap .i64 (s300.2.1 + 1))]) (v := .tup []) (H2 := [.box [lsv (encI .i32) 1 x0, .mp 1, .int .i64 s572.1, .int .i64 x2], mQ x3 x4 x5 x6, .box [lsv encSt33 2 x7, .nl, .nl, .nl, .bool x8, .int .i64 s572.2.1, .int .i64 s572.2.2, .int .i64 x11, .int .i64 x12, .int .i64 x13, .int .i64 y586, .int .i64 x15, .int .i64 x16, .int .i64 x17, .bool x18, .int .i32 x19, .int .i64 x20]]) [0, 1, 2] (pat_reader__between_s0_ok0 hy584) ?_
      refine kE ?_
      refine PJ.blockNormal ?_
      obtain rfl := oi h588
      exact kLN [0, 1, 4, 5]
     ·have h589 := elimR h585
      refine RJ.callP (d := (some 48)) (f := 79) (args := [.ptr 0 0, .ptr 2 0, .int .i64 s300.1, .int .i64 (IntKind.wrap .i64 (s300.2.1 + 1))]) (args0 := [.ptr 0 0, .ptr 2 0, .int .i64 s300.1, .int .i64 (IntKind.wrap .i64 (s300.2.1 + 1))]) (H0 := [.box [lsv (encI .i32) 1 x0, .mp 1, .int .i64 s572.1, .int .i64 x2], mQ x3 x4 x5 x6, .box [lsv encSt33 2 x7, .nl, .nl, .nl, .bool x8, .int .i64 s572.2.1, .int .i64 s572.2.2, .int .i64 x11, .int .i64 x12, .int .i64 x13, .int .i64 s300.2.2.2.2.2, .int .i64 x15, .int .i64 x16, .int .i64 x17, .bool x18, .int .i32 x19, .int .i64 x20]]) (H0' := [.box [.undef, .mp 1, .int .i64 s572.1, .int .i64 s572.1], mQ x3 x4 x5 x6, .box [.undef, .undef, .undef, .undef, .bool x8, .int .i64 s572.2.1, .int .i64 s572.2.2, .int .i64 x11, .int .i64 x12, .int .i64 x13, .int .i64 s300.2.2.2.2.2, .int .i64 x15, .int .i64 x16, .int .i64 x17, .bool x18, .int .i32 x19, .int .i64 x20]]) (H2 := [.box [.undef, .mp 1, .int .i64 s572.1, .int .i64 s572.1], mQ x3 x4 x5 x6, .box [.undef, .undef, .undef, .undef, .bool x8, .int .i64 s572.2.1, .int .i64 s572.2.2, .int .i64 x11, .int .i64 x12, .int .i64 x13, .int .i64 s300.2.2.2.2.2, .int .i64 x15, .int .i64 x16, .int .i64 x17, .bool x18, .int .i32 x19, .int .i64 x20]]) [0, 1, 2] (by kernel_rfl) (by kernel_rfl) (by kernel_rfl) (by kernel_rfl) (by decide) (by kernel_rfl) (by kernel_rfl) (by kernel_rfl) (.cons (Le.refl _) (.cons (Le.refl _) (.cons (Le.refl _) (.cons (Le.refl _) .nil)))) (pat_reader__between_s0_ok1 hy584) (by kernel_rfl) (by kernel_rfl) ?_
      refine PP.block ?_
      obtain rfl := oi h589
      refine PP.loopOut (fun he593 => ?_)
      have h591 := congrArg some he593
      refine PP.block ?_
      obtain rfl := oi h591
      have h592 := joinX_inr h298
      refine PP.cutXr ?_
      obtain rfl := Sum.inr.inj (Option.some.inj h592)
      exact K.panV (H0 := [.box [lsv (encI .i32) 1 x0, .mp 1, .int .i64 x1, .int .i64 x2], mQ x3 x4 x5 x6, .box [lsv encSt33 2 x7, .nl, .nl, .nl, .bool x8, .int .i64 x9, .int .i64 x10, .int .i64 x11, .int .i64 x12, .int .i64 x13, .int .i64 x14, .int .i64 x15, .int .i64 x16, .int .i64 x17, .bool x18, .int .i32 x19, .int .i64 x20]]) (H' := [.box [.undef, .mp 1, .int .i64 s572.1, .int .i64 s572.1], mQ x3 x4 x5 x6, .box [.undef, .undef, .undef, .undef, .bool x8, .int .i64 s572.2.1, .int .i64 s572.2.2, .int .i64 x11, .int .i64 x12, .int .i64 x13, .int .i64 s300.2.2.2.2.2, .int .i64 x15, .int .i64 x16, .int .i64 x17, .bool x18, .int .i32 x19, .int .i64 x20]]) [0, 1, 2] hFH hFD (by kernel_rfl) (by kernel_rfl) (by decide) (by kernel_rfl) (by kernel_rfl) (by kernel_rfl)
 ·subst hs
  have h299 := joinX_inl h298
  obtain ⟨y603, hy604, h605⟩ := bindS h299
  refine K.cutX (by kernel_rfl) (fun (s602 : Unit) => ([(1, .ptr 2 0), (4, .int .i64 s295.1), (5, .int .i64 s295.2.1)], [.box [lsv (encI .i32) 1 x0, .mp 1, .int .i64 s295.2.2.1, .int .i64 x2], mQ x3 x4 x5 x6, .box [lsv encSt33 2 x7, .nl, .nl, .nl, .bool x8, .int .i64 s295.2.2.2.1, .int .i64 s295.2.2.2.2.1, .int .i64 x11, .int .i64 x12, .int .i64 x13, .int .i64 s295.2.2.2.2.2, .int .i64 x15, .int .i64 x16, .int .i64 x17, .bool x18, .int .i32 x19, .int .i64 x20]])) y603 ?_ (fun s602 hs => ?_)
  ·refine kS ?_
   refine J.keep [0, 1, 4, 5] (L2 := [(0, .ptr 0 0), (1, .ptr 2 0), (4, .int .i64 s295.1), (5, .int .i64 s295.2.1)]) (by kernel_rfl) ?_
   refine K.draw (by kernel_rfl) (by kernel_rfl) (by kernel_rfl) (H2 := [.box [lsv (encI .i32) 1 x0, .mp 1, .int .i64 s295.2.2.1, .int .i64 x2], mQ x3 x4 x5 x6, .box [lsv encSt33 2 x7, .nl, .nl, .nl, .bool x8, .int .i64 s295.2.2.2.1, .int .i64 s295.2.2.2.2.1, .int .i64 x11, .int .i64 x12, .int .i64 x13, .int .i64 s295.2.2.2.2.2, .int .i64 x15, .int .i64 x16, .int .i64 x17, .bool x18, .int .i32 x19, .int .i64 x20]]) (by kernel_rfl) (n := 3) (by kernel_rfl) ?_
   refine kD 10 ?_
   refine kEN ?_
   refine kBJ 58 hy604 (fun h608 => ?_) (fun h609 => ?_)
   ·refine kT ?_
    refine kR ?_
    refine kC 5 [1,4,5,59,63] ?_
    obtain ⟨y610, hy611, h612⟩ := bindS h608
    refine RJ.callP (d := (some 64)) (f := 65) (args := [.ptr 0 0, .int .i64 s295.2.2.1]) (args0 := [.ptr 0 0, .int .i64 s295.2.2.1]) (H0 := [.box [lsv (encI .i32) 1 x0, .mp 1, .int .i64 s295.2.2.1, .int .i64 x2], mQ x3 x4 x5 x6]) (H0' := [.box [.undef, .mp 1, .int .i64 s295.2.2.1, .int .i64 s295.2.2.1], mQ x3 x4 x5 x6]) (H2 := [.box [.undef, .mp 1, .int .i64 s295.2.2.1, .int .i64 s295.2.2.1], mQ x3 x4 x5 x6, .box [lsv encSt33 2 x7, .nl, .nl, .nl, .bool x8, .int .i64 s295.2.2.2.1, .int .i64 s295.2.2.2.2.1, .int .i64 x11, .int .i64 x12, .int .i64 x13, .int .i64 s295.2.2.2.2.2, .int .i64 x15, .int .i64 x16, .int .i64 x17, .bool x18, .int .i32 x19, .int .i64 x20]]) [0, 1] (by kernel_rfl) (by kernel_rfl) (by kernel_rfl) (by kernel_rfl) (by decide) (by kernel_rfl) (by kernel_rfl) (by kernel_rfl) (.cons (Le.refl _) (.cons (Le.refl _) .nil)) (pat_reader__fail_s0_ok0 hy611) (by kernel_rfl) (by kernel_rfl) ?_
    obtain rfl := oi h612
    have h614 := joinX_inr h605
    refine PP.cutXr ?_
    obtain rfl := Sum.inr.inj (Option.some.inj h614)
    refine PP.wk (Wk.undefs 2 [true, true, true, true, false, false, false, false, false, false, false, false, false, false, false, false, false] (cs := [lsv encSt33 2 x7, .nl, .nl, .nl, .bool x8, .int .i64 s295.2.2.2.1, .int .i64 s295.2.2.2.2.1, .int .i64 x11, .int .i64 x12, .int .i64 x13, .int .i64 s295.2.2.2.2.2, .int .i64 x15, .int .i64 x16, .int .i64 x17, .bool x18, .int .i32 x19, .int .i64 x20]) (by kernel_rfl)) ?_
    exact K.panV (H0 := [.box [lsv (encI .i32) 1 x0, .mp 1, .int .i64 x1, .int .i64 x2], mQ x3 x4 x5 x6, .box [lsv encSt33 2 x7, .nl, .nl, .nl, .bool x8, .int .i64 x9, .int .i64 x10, .int .i64 x11, .int .i64 x12, .int .i64 x13, .int .i64 x14, .int .i64 x15, .int .i64 x16, .int .i64 x17, .bool x18, .int .i32 x19, .int .i64 x20]]) (H' := [.box [.undef, .mp 1, .int .i64 s295.2.2.1, .int .i64 s295.2.2.1], mQ x3 x4 x5 x6, .box [.undef, .undef, .undef, .undef, .bool x8, .int .i64 s295.2.2.2.1, .int .i64 s295.2.2.2.2.1, .int .i64 x11, .int .i64 x12, .int .i64 x13, .int .i64 s295.2.2.2.2.2, .int .i64 x15, .int .i64 x16, .int .i64 x17, .bool x18, .int .i32 x19, .int .i64 x20]]) [0, 1, 2] hFH hFD (by kernel_rfl) (by kernel_rfl) (by decide) (by kernel_rfl) (by kernel_rfl) (by kernel_rfl)
   ·refine kF ?_
    refine kK ?_
    obtain rfl := oi h609
    exact kXl [1, 4, 5]
  ·subst hs
   have h606 := joinX_inl h605
   refine kSR ?_
   refine kC 1 [1,5,65] ?_
   refine kEN ?_
   refine kb 2 ?_
   refine kSR ?_
   refine kC 2 [1,5,65,70] ?_
   refine kEN ?_
   refine kBJ 70 h606 (fun h616 => ?_) (fun h617 => ?_)
   ·refine kT ?_
    refine kK ?_
    refine PJ.blockNormal ?_
    cases h616
   ·refine kF ?_
    refine kSR ?_
    refine kC 2 [1,5,72] ?_
    refine kEN ?_
    refine kBJ 72 h617 (fun h619 => ?_) (fun h620 => ?_)
    ·refine kT ?_
     refine kR ?_
     refine kC 10 [] ?_
     refine kE ?_
     refine PJ.blockNormal ?_
     cases h619
    ·refine kF ?_
     refine kR ?_
     refine kC 5 [] ?_
     refine kE ?_
     refine PJ.blockNormal ?_
     cases h620
def pat_reader__fraction_s0 (x0 : List Int) (x1 : Int) (x2 : Int) (x3 : Int) (x4 : Int) (x5 : Int) (x6 : Int) (x7 : List St33) (x8 : Bool) (x9 : Int) (x10 : Int) (x11 : Int) (x12 : Int) (x13 : Int) (x14 : Int) (x15 : Int) (x16 : Int) (x17 : Int) (x18 : Bool) (x19 : Int) (x20 : Int) : Option ((Int × Int × Int) ⊕ (Int × Int × Int × Int)) :=
 (Option.bind (pat_reader__eat_s0 46 x0 x1 x2 x3 x4 x5 x6) fun y1 => (bif (!y1.1) then (some (.inl (y1.2, x11, x12))) else (Option.bind (pat_reader__many_s0 48 x0 y1.2 x2 x3 x4 x5 x6) fun y7 => (Option.bind (pat_reader__many_s0 35 x0 y7.2 x2 x3 x4 x5 x6) fun y10 => (bif (decide ((IntKind.wrap .i64 (y7.1 + y10.1)) = 0)) then (Option.bind (pat_reader__fail_s0 y10.2 x0 y10.2 x2 x3 x4 x5 x6) fun y16 => (some (.inr (y10.2, y10.2, y7.1, (IntKind.wrap .i64 (y7.1 + y10.1)))))) else (some (.inl (y10.2, y7.1, (IntKind.wrap .i64 (y7.1 + y10.1))))))))))
theorem pat_reader__fraction_s0_ok0 {x0 : List Int} {x1 : Int} {x2 : Int} {x3 : Int} {x4 : Int} {x5 : Int} {x6 : Int} {x7 : List St33} {x8 : Bool} {x9 : Int} {x10 : Int} {x11 : Int} {x12 : Int} {x13 : Int} {x14 : Int} {x15 : Int} {x16 : Int} {x17 : Int} {x18 : Bool} {x19 : Int} {x20 : Int} {r : Int × Int × Int} (h : pat_reader__fraction_s0 x0 x1 x2 x3 x4 x5 x6 x7 x8 x9 x10 x11 x12 x13 x14 x15 x16 x17 x18 x19 x20 = some (.inl r)) : SC Try.prog 75 [.ptr 0 0, .ptr 2 0] [.box [lsv (encI .i32) 1 x0, .mp 1, .int .i64 x1, .int .i64 x2], mQ x3 x4 x5 x6, .box [lsv encSt33 2 x7, .nl, .nl, .nl, .bool x8, .int .i64 x9, .int .i64 x10, .int .i64 x11, .int .i64 x12, .int .i64 x13, .int .i64 x14, .int .i64 x15, .int .i64 x16, .int .i64 x17, .bool x18, .int .i32 x19, .int .i64 x20]] (.tup []) [.box [lsv (encI .i32) 1 x0, .mp 1, .int .i64 r.1, .int .i64 x2], mQ x3 x4 x5 x6, .box [lsv encSt33 2 x7, .nl, .nl, .nl, .bool x8, .int .i64 x9, .int .i64 x10, .int .i64 r.2.1, .int .i64 r.2.2, .int .i64 x13, .int .i64 x14, .int .i64 x15, .int .i64 x16, .int .i64 x17, .bool x18, .int .i32 x19, .int .i64 x20]] := by
 refine kFn (fn := Try.f75) (fun F hFn hFH hFD => ?_)
 unfold pat_reader__fraction_s0 at h
 refine kS ?_
 refine kSR ?_
 refine kC 1 [0,1,4] ?_
 obtain ⟨y1, hy2, h3⟩ := bindS h
 refine kCG (some 5) (args := [.ptr 0 0, .int .i32 46]) (v := .bool y1.1) (H2 := [.box [lsv (encI .i32) 1 x0, .mp 1, .int .i64 y1.2, .int .i64 x2], mQ x3 x4 x5 x6, .box [lsv encSt33 2 x7, .nl, .nl, .nl, .bool x8, .int .i64 x9, .int .i64 x10, .int .i64 x11, .int .i64 x12, .int .i64 x13, .int .i64 x14, .int .i64 x15, .int .i64 x16, .int .i64 x17, .bool x18, .int .i32 x19, .int .i64 x20]]) [0, 1] (pat_reader__eat_s0_ok hy2) ?_
 refine kC 1 [0,1,6] ?_
 refine kEN ?_
 refine kBJ 6 h3 (fun h5 => ?_) (fun h6 => ?_)
 ·refine kT ?_
  refine kX ?_
  refine PJ.passRet ?_
  obtain rfl := Sum.inl.inj (Option.some.inj h5)
  exact kV [0, 1, 2] hFn hFH hFD (v1 := .tup [])
 ·refine kF ?_
  refine kK ?_
  refine PJ.next ?_
  refine kSR ?_
  refine kC 2 [0,1,7,8] ?_
  obtain ⟨y7, hy8, h9⟩ := bindS h6
  refine kCG (some 9) (args := [.ptr 0 0, .int .i32 48]) (v := .int .i64 y7.1) (H2 := [.box [lsv (encI .i32) 1 x0, .mp 1, .int .i64 y7.2, .int .i64 x2], mQ x3 x4 x5 x6, .box [lsv encSt33 2 x7, .nl, .nl, .nl, .bool x8, .int .i64 x9, .int .i64 x10, .int .i64 x11, .int .i64 x12, .int .i64 x13, .int .i64 x14, .int .i64 x15, .int .i64 x16, .int .i64 x17, .bool x18, .int .i32 x19, .int .i64 x20]]) [0, 1] (pat_reader__many_s0_ok hy8) ?_
  refine kC 3 [0,1] ?_
  refine kEN ?_
  refine kS ?_
  refine J.keep [0, 1] (L2 := [(0, .ptr 0 0), (1, .ptr 2 0)]) (by kernel_rfl) ?_
  refine K.draw (by kernel_rfl) (by kernel_rfl) (by kernel_rfl) (H2 := [.box [lsv (encI .i32) 1 x0, .mp 1, .int .i64 y7.2, .int .i64 x2], mQ x3 x4 x5 x6, .box [lsv encSt33 2 x7, .nl, .nl, .nl, .bool x8, .int .i64 x9, .int .i64 x10, .int .i64 y7.1, .int .i64 x12, .int .i64 x13, .int .i64 x14, .int .i64 x15, .int .i64 x16, .int .i64 x17, .bool x18, .int .i32 x19, .int .i64 x20], .res]) (by kernel_rfl) (n := 3) (by kernel_rfl) ?_
  refine kD 6 ?_
  obtain ⟨y10, hy11, h12⟩ := bindS h9
  refine RJ.callWr (d := (some 18)) (f := 73) (args := [.ptr 0 0, .int .i32 35]) (args0 := [.ptr 0 0, .int .i32 35]) (v0 := .int .i64 y10.1) (v := .int .i64 y10.1) (tr2 := [([], []), ([], []), ([], []), ([], []), ([4, 5], []), ([], []), ([0, 1, 2, 3], [0, 1, 2, 3, 6, 7])]) (H0 := [.box [lsv (encI .i32) 1 x0, .mp 1, .int .i64 y7.2, .int .i64 x2], mQ x3 x4 x5 x6]) (H0' := [.box [lsv (encI .i32) 1 x0, .mp 1, .int .i64 y10.2, .int .i64 x2], mQ x3 x4 x5 x6]) (H2 := [.box [lsv (encI .i32) 1 x0, .mp 1, .int .i64 y10.2, .int .i64 x2], mQ x3 x4 x5 x6, .box [lsv encSt33 2 x7, .nl, .nl, .nl, .bool x8, .int .i64 x9, .int .i64 x10, .int .i64 y7.1, .int .i64 x12, .int .i64 x13, .int .i64 x14, .int .i64 x15, .int .i64 x16, .int .i64 x17, .bool x18, .int .i32 x19, .int .i64 x20], .res]) [0, 1] (by kernel_rfl) (by kernel_rfl) (by kernel_rfl) (by kernel_rfl) (by decide) (by kernel_rfl) (by kernel_rfl) (by kernel_rfl) (.cons (Le.refl _) (.cons (Le.refl _) .nil)) (pat_reader__many_s0_ok hy11) (by kernel_rfl) (by kernel_rfl) (by kernel_rfl) (by kernel_rfl) (by kernel_rfl) ?_
  refine kD 4 ?_
  refine kEN ?_
  refine kSR ?_
  refine kC 5 [0,26] ?_
  refine kEN ?_
  refine kBJ 26 h12 (fun h14 => ?_) (fun h15 => ?_)
  ·refine kT ?_
   refine kR ?_
   refine kC 5 [27,31] ?_
   obtain ⟨y16, hy17, h18⟩ := bindS h14
   refine RJ.callP (d := (some 32)) (f := 65) (args := [.ptr 0 0, .int .i64 y10.2]) (args0 := [.ptr 0 0, .int .i64 y10.2]) (H0 := [.box [lsv (encI .i32) 1 x0, .mp 1, .int .i64 y10.2, .int .i64 x2], mQ x3 x4 x5 x6]) (H0' := [.box [.undef, .mp 1, .int .i64 y10.2, .int .i64 y10.2], mQ x3 x4 x5 x6]) (H2 := [.box [.undef, .mp 1, .int .i64 y10.2, .int .i64 y10.2], mQ x3 x4 x5 x6, .box [lsv encSt33 2 x7, .nl, .nl, .nl, .bool x8, .int .i64 x9, .int .i64 x10, .int .i64 y7.1, .int .i64 (IntKind.wrap .i64 (y7.1 + y10.1)), .int .i64 x13, .int .i64 x14, .int .i64 x15, .int .i64 x16, .int .i64 x17, .bool x18, .int .i32 x19, .int .i64 x20], .res]) [0, 1] (by kernel_rfl) (by kernel_rfl) (by kernel_rfl) (by kernel_rfl) (by decide) (by kernel_rfl) (by kernel_rfl) (by kernel_rfl) (.cons (Le.refl _) (.cons (Le.refl _) .nil)) (pat_reader__fail_s0_ok0 hy17) (by kernel_rfl) (by kernel_rfl) ?_
   cases h18
  ·refine kF ?_
   refine kK ?_
   obtain rfl := Sum.inl.inj (Option.some.inj h15)
   exact K.retV (H0 := [.box [lsv (encI .i32) 1 x0, .mp 1, .int .i64 x1, .int .i64 x2], mQ x3 x4 x5 x6, .box [lsv encSt33 2 x7, .nl, .nl, .nl, .bool x8, .int .i64 x9, .int .i64 x10, .int .i64 x11, .int .i64 x12, .int .i64 x13, .int .i64 x14, .int .i64 x15, .int .i64 x16, .int .i64 x17, .bool x18, .int .i32 x19, .int .i64 x20]]) [0, 1, 2] (.inl rfl) hFn hFH hFD (by kernel_rfl) (v1 := .tup []) (by kernel_rfl) (by kernel_rfl) (by kernel_rfl) (by decide) (by kernel_rfl) (by kernel_rfl) (by kernel_rfl) (by kernel_rfl) (by kernel_rfl)
theorem pat_reader__fraction_s0_ok1 {x0 : List Int} {x1 : Int} {x2 : Int} {x3 : Int} {x4 : Int} {x5 : Int} {x6 : Int} {x7 : List St33} {x8 : Bool} {x9 : Int} {x10 : Int} {x11 : Int} {x12 : Int} {x13 : Int} {x14 : Int} {x15 : Int} {x16 : Int} {x17 : Int} {x18 : Bool} {x19 : Int} {x20 : Int} {r : Int × Int × Int × Int} (h : pat_reader__fraction_s0 x0 x1 x2 x3 x4 x5 x6 x7 x8 x9 x10 x11 x12 x13 x14 x15 x16 x17 x18 x19 x20 = some (.inr r)) : SP Try.prog 75 [.ptr 0 0, .ptr 2 0] [.box [lsv (encI .i32) 1 x0, .mp 1, .int .i64 x1, .int .i64 x2], mQ x3 x4 x5 x6, .box [lsv encSt33 2 x7, .nl, .nl, .nl, .bool x8, .int .i64 x9, .int .i64 x10, .int .i64 x11, .int .i64 x12, .int .i64 x13, .int .i64 x14, .int .i64 x15, .int .i64 x16, .int .i64 x17, .bool x18, .int .i32 x19, .int .i64 x20]] [.box [.undef, .mp 1, .int .i64 r.1, .int .i64 r.2.1], mQ x3 x4 x5 x6, .box [.undef, .undef, .undef, .undef, .bool x8, .int .i64 x9, .int .i64 x10, .int .i64 r.2.2.1, .int .i64 r.2.2.2, .int .i64 x13, .int .i64 x14, .int .i64 x15, .int .i64 x16, .int .i64 x17, .bool x18, .int .i32 x19, .int .i64 x20]] := by
 refine kFnP (fn := Try.f75) (fun F hFn hFH hFD => ?_)
 unfold pat_reader__fraction_s0 at h
 refine kS ?_
 refine kSR ?_
 refine kC 1 [0,1,4] ?_
 obtain ⟨y1, hy2, h3⟩ := bindS h
 refine kCG (some 5) (args := [.ptr 0 0, .int .i32 46]) (v := .bool y1.1) (H2 := [.box [lsv (encI .i32) 1 x0, .mp 1, .int .i64 y1.2, .int .i64 x2], mQ x3 x4 x5 x6, .box [lsv encSt33 2 x7, .nl, .nl, .nl, .bool x8, .int .i64 x9, .int .i64 x10, .int .i64 x11, .int .i64 x12, .int .i64 x13, .int .i64 x14, .int .i64 x15, .int .i64 x16, .int .i64 x17, .bool x18, .int .i32 x19, .int .i64 x20]]) [0, 1] (pat_reader__eat_s0_ok hy2) ?_
 refine kC 1 [0,1,6] ?_
 refine kEN ?_
 refine kBJ 6 h3 (fun h5 => ?_) (fun h6 => ?_)
 ·refine kT ?_
  refine kX ?_
  refine PJ.passRet ?_
  cases h5
 ·refine kF ?_
  refine kK ?_
  refine PJ.next ?_
  refine kSR ?_
  refine kC 2 [0,1,7,8] ?_
  obtain ⟨y7, hy8, h9⟩ := bindS h6
  refine kCG (some 9) (args := [.ptr 0 0, .int .i32 48]) (v := .int .i64 y7.1) (H2 := [.box [lsv (encI .i32) 1 x0, .mp 1, .int .i64 y7.2, .int .i64 x2], mQ x3 x4 x5 x6, .box [lsv encSt33 2 x7, .nl, .nl, .nl, .bool x8, .int .i64 x9, .int .i64 x10, .int .i64 x11, .int .i64 x12, .int .i64 x13, .int .i64 x14, .int .i64 x15, .int .i64 x16, .int .i64 x17, .bool x18, .int .i32 x19, .int .i64 x20]]) [0, 1] (pat_reader__many_s0_ok hy8) ?_
  refine kC 3 [0,1] ?_
  refine kEN ?_
  refine kS ?_
  refine J.keep [0, 1] (L2 := [(0, .ptr 0 0), (1, .ptr 2 0)]) (by kernel_rfl) ?_
  refine K.draw (by kernel_rfl) (by kernel_rfl) (by kernel_rfl) (H2 := [.box [lsv (encI .i32) 1 x0, .mp 1, .int .i64 y7.2, .int .i64 x2], mQ x3 x4 x5 x6, .box [lsv encSt33 2 x7, .nl, .nl, .nl, .bool x8, .int .i64 x9, .int .i64 x10, .int .i64 y7.1, .int .i64 x12, .int .i64 x13, .int .i64 x14, .int .i64 x15, .int .i64 x16, .int .i64 x17, .bool x18, .int .i32 x19, .int .i64 x20], .res]) (by kernel_rfl) (n := 3) (by kernel_rfl) ?_
  refine kD 6 ?_
  obtain ⟨y10, hy11, h12⟩ := bindS h9
  refine RJ.callWr (d := (some 18)) (f := 73) (args := [.ptr 0 0, .int .i32 35]) (args0 := [.ptr 0 0, .int .i32 35]) (v0 := .int .i64 y10.1) (v := .int .i64 y10.1) (tr2 := [([], []), ([], []), ([], []), ([], []), ([4, 5], []), ([], []), ([0, 1, 2, 3], [0, 1, 2, 3, 6, 7])]) (H0 := [.box [lsv (encI .i32) 1 x0, .mp 1, .int .i64 y7.2, .int .i64 x2], mQ x3 x4 x5 x6]) (H0' := [.box [lsv (encI .i32) 1 x0, .mp 1, .int .i64 y10.2, .int .i64 x2], mQ x3 x4 x5 x6]) (H2 := [.box [lsv (encI .i32) 1 x0, .mp 1, .int .i64 y10.2, .int .i64 x2], mQ x3 x4 x5 x6, .box [lsv encSt33 2 x7, .nl, .nl, .nl, .bool x8, .int .i64 x9, .int .i64 x10, .int .i64 y7.1, .int .i64 x12, .int .i64 x13, .int .i64 x14, .int .i64 x15, .int .i64 x16, .int .i64 x17, .bool x18, .int .i32 x19, .int .i64 x20], .res]) [0, 1] (by kernel_rfl) (by kernel_rfl) (by kernel_rfl) (by kernel_rfl) (by decide) (by kernel_rfl) (by kernel_rfl) (by kernel_rfl) (.cons (Le.refl _) (.cons (Le.refl _) .nil)) (pat_reader__many_s0_ok hy11) (by kernel_rfl) (by kernel_rfl) (by kernel_rfl) (by kernel_rfl) (by kernel_rfl) ?_
  refine kD 4 ?_
  refine kEN ?_
  refine kSR ?_
  refine kC 5 [0,26] ?_
  refine kEN ?_
  refine kBJ 26 h12 (fun h14 => ?_) (fun h15 => ?_)
  ·refine kT ?_
   refine kR ?_
   refine kC 5 [27,31] ?_
   obtain ⟨y16, hy17, h18⟩ := bindS h14
   refine RJ.callP (d := (some 32)) (f := 65) (args := [.ptr 0 0, .int .i64 y10.2]) (args0 := [.ptr 0 0, .int .i64 y10.2]) (H0 := [.box [lsv (encI .i32) 1 x0, .mp 1, .int .i64 y10.2, .int .i64 x2], mQ x3 x4 x5 x6]) (H0' := [.box [.undef, .mp 1, .int .i64 y10.2, .int .i64 y10.2], mQ x3 x4 x5 x6]) (H2 := [.box [.undef, .mp 1, .int .i64 y10.2, .int .i64 y10.2], mQ x3 x4 x5 x6, .box [lsv encSt33 2 x7, .nl, .nl, .nl, .bool x8, .int .i64 x9, .int .i64 x10, .int .i64 y7.1, .int .i64 (IntKind.wrap .i64 (y7.1 + y10.1)), .int .i64 x13, .int .i64 x14, .int .i64 x15, .int .i64 x16, .int .i64 x17, .bool x18, .int .i32 x19, .int .i64 x20], .res]) [0, 1] (by kernel_rfl) (by kernel_rfl) (by kernel_rfl) (by kernel_rfl) (by decide) (by kernel_rfl) (by kernel_rfl) (by kernel_rfl) (.cons (Le.refl _) (.cons (Le.refl _) .nil)) (pat_reader__fail_s0_ok0 hy17) (by kernel_rfl) (by kernel_rfl) ?_
   obtain rfl := Sum.inr.inj (Option.some.inj h18)
   refine PP.wk (Wk.undefs 2 [true, true, true, true, false, false, false, false, false, false, false, false, false, false, false, false, false] (cs := [lsv encSt33 2 x7, .nl, .nl, .nl, .bool x8, .int .i64 x9, .int .i64 x10, .int .i64 y7.1, .int .i64 (IntKind.wrap .i64 (y7.1 + y10.1)), .int .i64 x13, .int .i64 x14, .int .i64 x15, .int .i64 x16, .int .i64 x17, .bool x18, .int .i32 x19, .int .i64 x20]) (by kernel_rfl)) ?_
   exact K.panV (H0 := [.box [lsv (encI .i32) 1 x0, .mp 1, .int .i64 x1, .int .i64 x2], mQ x3 x4 x5 x6, .box [lsv encSt33 2 x7, .nl, .nl, .nl, .bool x8, .int .i64 x9, .int .i64 x10, .int .i64 x11, .int .i64 x12, .int .i64 x13, .int .i64 x14, .int .i64 x15, .int .i64 x16, .int .i64 x17, .bool x18, .int .i32 x19, .int .i64 x20]]) (H' := [.box [.undef, .mp 1, .int .i64 y10.2, .int .i64 y10.2], mQ x3 x4 x5 x6, .box [.undef, .undef, .undef, .undef, .bool x8, .int .i64 x9, .int .i64 x10, .int .i64 y7.1, .int .i64 (IntKind.wrap .i64 (y7.1 + y10.1)), .int .i64 x13, .int .i64 x14, .int .i64 x15, .int .i64 x16, .int .i64 x17, .bool x18, .int .i32 x19, .int .i64 x20]]) [0, 1, 2] hFH hFD (by kernel_rfl) (by kernel_rfl) (by decide) (by kernel_rfl) (by kernel_rfl) (by kernel_rfl)
  ·refine kF ?_
   refine kK ?_
   cases h15
end Go.Proofs.Ytdflcknbelpflaa
