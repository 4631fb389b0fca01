/-
  What the functions of this program come to, as functions of natives, each with the proof that it does. No conditions.
-/
import Derived.Test.YtcmmjficmoflkaaGreatProg
import Derived.Test.YtcmmjficmoflkaaGreatSyV
import Derived.Test.YtcmmjficmoflkaaGreatGc
namespace Go.Proofs.YtcmmjficmoflkaaGreat
open Go Go.Sy Go.RowKit
set_option linter.unusedVariables false
set_option linter.unusedSimpArgs false
set_option maxRecDepth 100000
set_option maxHeartbeats 4000000

def exergueref05_Right (x0 : St28) : Option (Bool) :=
 (Option.bind (loopN (fun (s45 : Int) => (bif (decide (s45 < (x0.D_.length : Int))) then (bif inR s45 x0.D_.length then (bif (decide ((nth x0.D_ s45) > 9)) then (some (.inr (.inr false))) else (some (.inl (IntKind.wrap .i64 (s45 + 1))))) else none) else (some (.inr (.inl ()))))) big 0) (joinX fun (s40 : Unit) => (bif (decide ((x0.D_.length : Int) = 0)) then (some (decide (x0.E_ = 0))) else (Option.bind (bif (decide ((x0.D_.length : Int) ≤ 1000)) then (bif inR 0 x0.D_.length then (bif (decide ((nth x0.D_ 0) > 0)) then (bif inR ((IntKind.wrap .i64 ((x0.D_.length : Int) - 1))) x0.D_.length then (bif (decide (((nth x0.D_ ((IntKind.wrap .i64 ((x0.D_.length : Int) - 1))))) > 0)) then (bif (decide (x0.E_ ≥ (-1000))) then (some (decide (x0.E_ ≤ 1000))) else (some false)) else (some false)) else none) else (some false)) else none) else (some false)) fun (s101 : Bool) => (some s101)))))
theorem exergueref05_Right_ok {x0 : St28} {r : Bool} (h : exergueref05_Right x0 = some r) : SC Tryz.prog 26 [.agg (encSt28 x0)] [] (.bool r) [] := by
 refine kFn (fn := Tryz.f26) (fun F hFn hFH hFD => ?_)
 unfold exergueref05_Right at h
 refine kSR ?_
 refine kC 2 [1,2] ?_
 refine kEN ?_
 refine kSR ?_
 refine kC 4 [1,2,3] ?_
 refine kEN ?_
 obtain ⟨y41, hy42, h43⟩ := bindS h
 refine K.cutX (by kernel_rfl) (fun (s40 : Unit) => ([(1, .ptr 0 0), (2, .bool false), (3, .int .i64 (x0.D_.length : Int))], [.box (encSt28 x0)])) y41 ?_ (fun s40 hs => ?_)
 ·refine kSR ?_
  refine kC 1 [1,2,3,4] ?_
  refine kEN ?_
  refine K.block 0 (by kernel_rfl) ?_
  refine K.loop (by kernel_rfl) (fun (s45 : Int) => ([(1, .ptr 0 0), (2, .bool false), (3, .int .i64 (x0.D_.length : Int)), (4, .int .i64 s45)], [.box (encSt28 x0)])) hy42 [1, 2, 3, 4] (by kernel_rfl) (by kernel_rfl) (fun s45 x71 hs70 => ?_)
  refine kS ?_
  refine kSR ?_
  refine kC 3 [1,2,3,4,10] ?_
  refine kEN ?_
  refine J.caseB 10 (b := (decide (s45 < (x0.D_.length : Int)))) (by kernel_rfl) (fun hb72 => ?_) (fun hb72 => ?_)
  ·have h73 := condT hb72 hs70
   refine kT ?_
   refine kK ?_
   refine PJ.next ?_
   refine kS ?_
   refine K.block 1 (by kernel_rfl) ?_
   refine kSR ?_
   refine kC 3 [1,2,3,4,14,15] ?_
   obtain ⟨hm, h75⟩ := asrt h73
   refine RJ.rel (d := (some 16)) (ef := ⟨.ep (((x0.D_.flatMap (encI .u8)).drop ((s45 : Int).toNat * 1)).take 1), [], []⟩) (ef' := ⟨.ep ((encI .u8) (nth x0.D_ s45)), [], []⟩) (c := inR s45 x0.D_.length) (tr2 := []) (H2 := [.box (encSt28 x0)]) (by kernel_rfl) hm (fun hc => N.idx (encI_len .u8) hc) (by kernel_rfl) ?_
   refine kC 2 [1,2,3,4,18] ?_
   refine kEN ?_
   refine J.caseB 18 (b := (decide ((nth x0.D_ s45) > 9))) (by kernel_rfl) (fun hb76 => ?_) (fun hb76 => ?_)
   ·have h77 := condT hb76 h75
    refine kT ?_
    refine kSR ?_
    refine RJ.seg 1 [1, 2, 3, 4] (L2 := [(1, .ptr 0 0), (2, .bool false), (3, .int .i64 (x0.D_.length : Int)), (4, .int .i64 s45)]) (H2 := [.box (encSt28 x0)]) (by kernel_rfl) ?_
    refine kEN ?_
    refine kX ?_
    refine PJ.blockRet ?_
    refine PJ.passRet ?_
    obtain rfl := oi h77
    refine PJ.loopOut (fun e => nomatch e) (fun he81 => ?_)
    have h79 := congrArg some he81
    refine PJ.blockRet ?_
    obtain rfl := oi h79
    have h80 := joinX_inr h43
    refine PJ.cutXr (fun e => nomatch e) ?_
    obtain rfl := oi h80
    exact kZ hFn hFH hFD
   ·have h78 := condF hb76 h75
    refine kF ?_
    refine kK ?_
    refine PJ.blockNormal ?_
    refine PJ.next ?_
    refine kR ?_
    refine RJ.seg 3 [1, 2, 3, 4] (L2 := [(1, .ptr 0 0), (2, .bool false), (3, .int .i64 (x0.D_.length : Int)), (4, .int .i64 (IntKind.wrap .i64 (s45 + 1)))]) (H2 := [.box (encSt28 x0)]) (by kernel_rfl) ?_
    refine kE ?_
    obtain rfl := oi h78
    exact PJ.loopNext [1, 2, 3, 4] (by kernel_rfl) (by kernel_rfl)
  ·have h74 := condF hb72 hs70
   refine kF ?_
   refine K.exit 0 (by kernel_rfl) ?_
   refine PJ.passExit ?_
   obtain rfl := oi h74
   refine PJ.loopOut (fun e => nomatch e) (fun he83 => ?_)
   have h82 := congrArg some he83
   refine PJ.blockOut ?_
   obtain rfl := oi h82
   exact PJ.cutXl [1, 2, 3] (by kernel_rfl) (by kernel_rfl)
 ·subst hs
  have h44 := joinX_inl h43
  refine kS ?_
  refine kSR ?_
  refine kC 2 [1,2,3,20] ?_
  refine kEN ?_
  refine J.caseB 20 (b := (decide ((x0.D_.length : Int) = 0))) (by kernel_rfl) (fun hb84 => ?_) (fun hb84 => ?_)
  ·have h85 := condT hb84 h44
   refine kT ?_
   refine kSR ?_
   refine kC 4 [1,2,3] ?_
   refine kEN ?_
   refine kX ?_
   refine PJ.passRet ?_
   obtain rfl := oi h85
   exact kZ hFn hFH hFD
  ·have h86 := condF hb84 h44
   refine kF ?_
   refine kK ?_
   refine PJ.next ?_
   obtain ⟨s101, hy103, h105⟩ := bindS h86
   refine K.cutN (by kernel_rfl) (fun (s101 : Bool) => ([(2, .bool s101)], [])) s101 ?_ ?_
   ·refine kR ?_
    refine kC 3 [1,2,3,26] ?_
    refine RJ.caseB 26 (b := (decide ((x0.D_.length : Int) ≤ 1000))) (by kernel_rfl) (fun hb106 => ?_) (fun hb106 => ?_)
    ·have h107 := condT hb106 hy103
     refine kC 2 [1,2,3,26,28] ?_
     obtain ⟨hm, h109⟩ := asrt h107
     refine RJ.rel (d := (some 29)) (ef := ⟨.ep (((x0.D_.flatMap (encI .u8)).drop ((0 : Int).toNat * 1)).take 1), [], []⟩) (ef' := ⟨.ep ((encI .u8) (nth x0.D_ 0)), [], []⟩) (c := inR 0 x0.D_.length) (tr2 := []) (H2 := [.box (encSt28 x0)]) (by kernel_rfl) hm (fun hc => N.idx (encI_len .u8) hc) (by kernel_rfl) ?_
     refine RJ.seg 4 [1, 2, 3, 33] (L2 := [(1, .ptr 0 0), (2, .bool false), (3, .int .i64 (x0.D_.length : Int)), (33, .bool ((decide ((nth x0.D_ 0) > 0))))]) (H2 := [.box (encSt28 x0)]) (by kernel_rfl) ?_
     refine RJ.caseB 33 (b := (decide ((nth x0.D_ 0) > 0))) (by kernel_rfl) (fun hb110 => ?_) (fun hb110 => ?_)
     ·have h111 := condT hb110 h109
      refine kC 4 [1,2,33,35,37] ?_
      obtain ⟨hm, h113⟩ := asrt h111
      refine RJ.rel (d := (some 38)) (ef := ⟨.ep (((x0.D_.flatMap (encI .u8)).drop (((IntKind.wrap .i64 ((x0.D_.length : Int) - 1)) : Int).toNat * 1)).take 1), [], []⟩) (ef' := ⟨.ep ((encI .u8) (nth x0.D_ ((IntKind.wrap .i64 ((x0.D_.length : Int) - 1))))), [], []⟩) (c := inR ((IntKind.wrap .i64 ((x0.D_.length : Int) - 1))) x0.D_.length) (tr2 := []) (H2 := [.box (encSt28 x0)]) (by kernel_rfl) hm (fun hc => N.idx (encI_len .u8) hc) (by kernel_rfl) ?_
      refine kC 4 [1,2,42] ?_
      refine RJ.caseB 42 (b := (decide (((nth x0.D_ ((IntKind.wrap .i64 ((x0.D_.length : Int) - 1))))) > 0))) (by kernel_rfl) (fun hb114 => ?_) (fun hb114 => ?_)
      ·have h115 := condT hb114 h113
       refine kC 5 [1,2,47] ?_
       refine RJ.caseB 47 (b := (decide (x0.E_ ≥ (-1000)))) (by kernel_rfl) (fun hb117 => ?_) (fun hb117 => ?_)
       ·have h118 := condT hb117 h115
        refine RJ.seg 5 [2] (L2 := [(2, .bool (decide (x0.E_ ≤ 1000)))]) (H2 := [.box (encSt28 x0)]) (by kernel_rfl) ?_
        refine kE ?_
        obtain rfl := oi h118
        refine PJ.wk (Wk.sel (L2 := [(2, .bool (decide (x0.E_ ≤ 1000)))]) (H2 := []) 0 (by rw [hFH]; rfl) hFD [] (by kernel_rfl) (by kernel_rfl) (by decide) (by kernel_rfl) (by kernel_rfl) (by kernel_rfl) (by kernel_rfl)) ?_
        exact kN [2]
       ·have h119 := condF hb117 h115
        refine RJ.seg 5 [2] (L2 := [(2, .bool false)]) (H2 := [.box (encSt28 x0)]) (by kernel_rfl) ?_
        refine kE ?_
        obtain rfl := oi h119
        refine PJ.wk (Wk.sel (L2 := [(2, .bool false)]) (H2 := []) 0 (by rw [hFH]; rfl) hFD [] (by kernel_rfl) (by kernel_rfl) (by decide) (by kernel_rfl) (by kernel_rfl) (by kernel_rfl) (by kernel_rfl)) ?_
        exact kN [2]
      ·have h116 := condF hb114 h113
       refine kC 10 [2] ?_
       refine kE ?_
       obtain rfl := oi h116
       refine PJ.wk (Wk.sel (L2 := [(2, .bool false)]) (H2 := []) 0 (by rw [hFH]; rfl) hFD [] (by kernel_rfl) (by kernel_rfl) (by decide) (by kernel_rfl) (by kernel_rfl) (by kernel_rfl) (by kernel_rfl)) ?_
       exact kN [2]
     ·have h112 := condF hb110 h109
      refine kC 19 [2] ?_
      refine kE ?_
      obtain rfl := oi h112
      refine PJ.wk (Wk.sel (L2 := [(2, .bool false)]) (H2 := []) 0 (by rw [hFH]; rfl) hFD [] (by kernel_rfl) (by kernel_rfl) (by decide) (by kernel_rfl) (by kernel_rfl) (by kernel_rfl) (by kernel_rfl)) ?_
      exact kN [2]
    ·have h108 := condF hb106 hy103
     refine kC 26 [2] ?_
     refine kE ?_
     obtain rfl := oi h108
     refine PJ.wk (Wk.sel (L2 := [(2, .bool false)]) (H2 := []) 0 (by rw [hFH]; rfl) hFD [] (by kernel_rfl) (by kernel_rfl) (by decide) (by kernel_rfl) (by kernel_rfl) (by kernel_rfl) (by kernel_rfl)) ?_
     exact kN [2]
   ·refine kX ?_
    obtain rfl := oi h105
    exact kZ hFn hFH hFD

def exergueref05_Norm (x0 : Bool) (x1 : List Int) (x2 : Int) : Option (St28 × Int) :=
 (Option.bind (loopN (fun (s129 : Int × Int × Int) => (bif (decide (s129.2.2 < (x1.length : Int))) then (Option.bind (bif inR s129.2.2 x1.length then (bif (decide ((nth x1 s129.2.2) > 9)) then (some (.inr (.inr (.inr ((⟨false, ([] : List Int), 0⟩ : St28), 1))))) else (bif inR s129.2.2 x1.length then (bif (decide ((nth x1 s129.2.2) > 0)) then (bif (decide (s129.1 < 0)) then (some (.inl (s129.2.2, s129.2.2))) else (some (.inl (s129.1, s129.2.2)))) else (some (.inl (s129.1, s129.2.1)))) else none)) else none) (joinX fun (s230 : Int × Int) => (some (.inl (s230.1, s230.2, (IntKind.wrap .i64 (s129.2.2 + 1))))))) else (some (.inr (.inl (s129.1, s129.2.1)))))) big ((-1), (-1), 0)) (joinX fun (s124 : Int × Int) => (Option.bind (Option.bind (bif (decide (x2 < (-1099511627776))) then (some true) else (some (decide (x2 > 1099511627776)))) fun (s275 : Bool) => (bif s275 then (some (.inr ((⟨false, ([] : List Int), 0⟩ : St28), 11))) else (some (.inl ())))) (joinX fun (s267 : Unit) => (bif (decide (s124.1 < 0)) then (some ((⟨x0, ([] : List Int), 0⟩ : St28), 0)) else (bif inS s124.1 (IntKind.wrap .i64 (s124.2 + 1)) x1.length then (Option.bind (exergueref05_Right ((⟨x0, (cut x1 s124.1 (IntKind.wrap .i64 (s124.2 + 1))), (IntKind.wrap .i64 (((IntKind.wrap .i64 (((IntKind.wrap .i64 (x2 + (x1.length : Int)))) - 1))) - s124.2))⟩ : St28))) fun y291 => (bif (!y291) then (some ((⟨false, ([] : List Int), 0⟩ : St28), 11)) else (some ((⟨x0, (cut x1 s124.1 (IntKind.wrap .i64 (s124.2 + 1))), (IntKind.wrap .i64 (((IntKind.wrap .i64 (((IntKind.wrap .i64 (x2 + (x1.length : Int)))) - 1))) - s124.2))⟩ : St28), 0)))) else none))))))
theorem exergueref05_Norm_ok {x0 : Bool} {x1 : List Int} {x2 : Int} {r : St28 × Int} (h : exergueref05_Norm x0 x1 x2 = some r) : SC Tryz.prog 54 [.bool x0, lsv (encI .u8) 1 x1, .int .i64 x2] [] (.tup [.agg (encSt28 r.1), .int .i64 r.2]) [] := by
 refine kFn (fn := Tryz.f54) (fun F hFn hFH hFD => ?_)
 unfold exergueref05_Norm at h
 refine kSR ?_
 refine kC 2 [0,1,2,6,7] ?_
 refine kEN ?_
 refine kSR ?_
 refine kC 1 [0,1,2,6,7,8] ?_
 refine kEN ?_
 refine kSR ?_
 refine kC 1 [0,1,2,6,7,8,9] ?_
 refine kEN ?_
 obtain ⟨y125, hy126, h127⟩ := bindS h
 refine K.cutX (by kernel_rfl) (fun (s124 : Int × Int) => ([(0, .bool x0), (1, lsv (encI .u8) 1 x1), (2, .int .i64 x2), (6, .ptr 0 0), (7, .int .i64 0), (8, .int .i64 s124.1), (9, .int .i64 s124.2)], [.box [.bool false, .nl, .int .i64 0]])) y125 ?_ (fun s124 hs => ?_)
 ·refine kSR ?_
  refine RJ.seg 1 [0, 1, 2, 6, 7, 8, 9, 10] (L2 := [(0, .bool x0), (1, lsv (encI .u8) 1 x1), (2, .int .i64 x2), (6, .ptr 0 0), (7, .int .i64 0), (8, .int .i64 (-1)), (9, .int .i64 (-1)), (10, .int .i64 0)]) (H2 := [.box [.bool false, .nl, .int .i64 0]]) (by kernel_rfl) ?_
  refine kEN ?_
  refine K.block 0 (by kernel_rfl) ?_
  refine K.loop (by kernel_rfl) (fun (s129 : Int × Int × Int) => ([(0, .bool x0), (1, lsv (encI .u8) 1 x1), (2, .int .i64 x2), (6, .ptr 0 0), (7, .int .i64 0), (8, .int .i64 s129.1), (9, .int .i64 s129.2.1), (10, .int .i64 s129.2.2)], [.box [.bool false, .nl, .int .i64 0]])) hy126 [0, 1, 2, 6, 7, 8, 9, 10] (by kernel_rfl) (by kernel_rfl) (fun s129 x211 hs210 => ?_)
  refine kS ?_
  refine kSR ?_
  refine kC 4 [0,1,2,6,7,8,9,10,16] ?_
  refine kEN ?_
  refine J.caseB 16 (b := (decide (s129.2.2 < (x1.length : Int)))) (by kernel_rfl) (fun hb212 => ?_) (fun hb212 => ?_)
  ·have h213 := condT hb212 hs210
   refine kT ?_
   refine kK ?_
   refine PJ.next ?_
   obtain ⟨y231, hy232, h233⟩ := bindS h213
   refine K.cutX (by kernel_rfl) (fun (s230 : Int × Int) => ([(0, .bool x0), (1, lsv (encI .u8) 1 x1), (2, .int .i64 x2), (6, .ptr 0 0), (7, .int .i64 0), (8, .int .i64 s230.1), (9, .int .i64 s230.2), (10, .int .i64 s129.2.2)], [.box [.bool false, .nl, .int .i64 0]])) y231 ?_ (fun s230 hs => ?_)
   ·refine K.block 1 (by kernel_rfl) ?_
    refine kS ?_
    refine kSR ?_
    refine kC 2 [0,1,2,6,7,8,9,10,19,20] ?_
    obtain ⟨hm, h235⟩ := asrt hy232
    refine RJ.rel (d := (some 21)) (ef := ⟨.ep (((x1.flatMap (encI .u8)).drop ((s129.2.2 : Int).toNat * 1)).take 1), [], []⟩) (ef' := ⟨.ep ((encI .u8) (nth x1 s129.2.2)), [], []⟩) (c := inR s129.2.2 x1.length) (tr2 := []) (H2 := [.box [.bool false, .nl, .int .i64 0]]) (by kernel_rfl) hm (fun hc => N.idx (encI_len .u8) hc) (by kernel_rfl) ?_
    refine kC 2 [0,1,2,6,7,8,9,10,23] ?_
    refine kEN ?_
    refine J.caseB 23 (b := (decide ((nth x1 s129.2.2) > 9))) (by kernel_rfl) (fun hb236 => ?_) (fun hb236 => ?_)
    ·have h237 := condT hb236 h235
     refine kT ?_
     refine kSR ?_
     refine RJ.seg 3 [0, 1, 2, 6, 7, 8, 9, 10] (L2 := [(0, .bool x0), (1, lsv (encI .u8) 1 x1), (2, .int .i64 x2), (6, .ptr 0 0), (7, .int .i64 1), (8, .int .i64 s129.1), (9, .int .i64 s129.2.1), (10, .int .i64 s129.2.2)]) (H2 := [.box [.bool false, .nl, .int .i64 0]]) (by kernel_rfl) ?_
     refine kEN ?_
     refine kX ?_
     refine PJ.passRet ?_
     refine PJ.blockRet ?_
     obtain rfl := oi h237
     have h239 := joinX_inr h233
     refine PJ.cutXr (fun e => nomatch e) ?_
     obtain rfl := oi h239
     refine PJ.loopOut (fun e => nomatch e) (fun he242 => ?_)
     have h240 := congrArg some he242
     refine PJ.blockRet ?_
     obtain rfl := oi h240
     have h241 := joinX_inr h127
     refine PJ.cutXr (fun e => nomatch e) ?_
     obtain rfl := oi h241
     refine PJ.res (v1 := .tup [.agg [.bool false, .nl, .int .i64 0], .int .i64 1]) (Le.tup (.cons (Le.agg (.cons (Le.refl _) (.cons (Le.nl _) (.cons (Le.refl _) .nil)))) (.cons (Le.refl _) .nil))) ?_
     exact kZ hFn hFH hFD
    ·have h238 := condF hb236 h235
     refine kF ?_
     refine kK ?_
     refine PJ.next ?_
     refine kSR ?_
     refine RJ.seg 2 [0, 1, 2, 6, 7, 8, 9, 10, 25, 26] (L2 := [(0, .bool x0), (1, lsv (encI .u8) 1 x1), (2, .int .i64 x2), (6, .ptr 0 0), (7, .int .i64 0), (8, .int .i64 s129.1), (9, .int .i64 s129.2.1), (10, .int .i64 s129.2.2), (25, lsv (encI .u8) 1 x1), (26, .int .i64 s129.2.2)]) (H2 := [.box [.bool false, .nl, .int .i64 0]]) (by kernel_rfl) ?_
     obtain ⟨hm, h243⟩ := asrt h238
     refine RJ.rel (d := (some 27)) (ef := ⟨.ep (((x1.flatMap (encI .u8)).drop ((s129.2.2 : Int).toNat * 1)).take 1), [], []⟩) (ef' := ⟨.ep ((encI .u8) (nth x1 s129.2.2)), [], []⟩) (c := inR s129.2.2 x1.length) (tr2 := []) (H2 := [.box [.bool false, .nl, .int .i64 0]]) (by kernel_rfl) hm (fun hc => N.idx (encI_len .u8) hc) (by kernel_rfl) ?_
     refine kC 2 [0,1,2,6,7,8,9,10,29] ?_
     refine kEN ?_
     refine J.caseB 29 (b := (decide ((nth x1 s129.2.2) > 0))) (by kernel_rfl) (fun hb244 => ?_) (fun hb244 => ?_)
     ·have h245 := condT hb244 h243
      refine kT ?_
      refine kSR ?_
      refine kC 2 [0,1,2,6,7,8,9,10] ?_
      refine kEN ?_
      refine kSR ?_
      refine kC 2 [0,1,2,6,7,8,9,10,32] ?_
      refine kEN ?_
      refine J.caseB 32 (b := (decide (s129.1 < 0))) (by kernel_rfl) (fun hb247 => ?_) (fun hb247 => ?_)
      ·have h248 := condT hb247 h245
       refine kT ?_
       refine kR ?_
       refine RJ.seg 2 [0, 1, 2, 6, 7, 8, 9, 10] (L2 := [(0, .bool x0), (1, lsv (encI .u8) 1 x1), (2, .int .i64 x2), (6, .ptr 0 0), (7, .int .i64 0), (8, .int .i64 s129.2.2), (9, .int .i64 s129.2.2), (10, .int .i64 s129.2.2)]) (H2 := [.box [.bool false, .nl, .int .i64 0]]) (by kernel_rfl) ?_
       refine kE ?_
       refine PJ.blockNormal ?_
       obtain rfl := oi h248
       exact PJ.cutXl [0, 1, 2, 6, 7, 8, 9, 10] (by kernel_rfl) (by kernel_rfl)
      ·have h249 := condF hb247 h245
       refine kF ?_
       refine kK ?_
       refine PJ.blockNormal ?_
       obtain rfl := oi h249
       exact PJ.cutXl [0, 1, 2, 6, 7, 8, 9, 10] (by kernel_rfl) (by kernel_rfl)
     ·have h246 := condF hb244 h243
      refine kF ?_
      refine kK ?_
      refine PJ.blockNormal ?_
      obtain rfl := oi h246
      exact PJ.cutXl [0, 1, 2, 6, 7, 8, 9, 10] (by kernel_rfl) (by kernel_rfl)
   ·subst hs
    have h234 := joinX_inl h233
    refine kR ?_
    refine kC 3 [0,1,2,6,7,8,9,10] ?_
    refine kE ?_
    obtain rfl := oi h234
    exact PJ.loopNext [0, 1, 2, 6, 7, 8, 9, 10] (by kernel_rfl) (by kernel_rfl)
  ·have h214 := condF hb212 hs210
   refine kF ?_
   refine K.exit 0 (by kernel_rfl) ?_
   refine PJ.passExit ?_
   obtain rfl := oi h214
   refine PJ.loopOut (fun e => nomatch e) (fun he251 => ?_)
   have h250 := congrArg some he251
   refine PJ.blockOut ?_
   obtain rfl := oi h250
   exact PJ.cutXl [0, 1, 2, 6, 7, 8, 9] (by kernel_rfl) (by kernel_rfl)
 ·subst hs
  have h128 := joinX_inl h127
  obtain ⟨y268, hy269, h270⟩ := bindS h128
  refine K.cutX (by kernel_rfl) (fun (s267 : Unit) => ([(0, .bool x0), (1, lsv (encI .u8) 1 x1), (2, .int .i64 x2), (6, .ptr 0 0), (7, .int .i64 0), (8, .int .i64 s124.1), (9, .int .i64 s124.2)], [.box [.bool false, .nl, .int .i64 0]])) y268 ?_ (fun s267 hs => ?_)
  ·obtain ⟨s275, hy277, h279⟩ := bindS hy269
   refine K.cutN (by kernel_rfl) (fun (s275 : Bool) => ([(0, .bool x0), (1, lsv (encI .u8) 1 x1), (2, .int .i64 x2), (6, .ptr 0 0), (7, .int .i64 0), (8, .int .i64 s124.1), (9, .int .i64 s124.2), (39, .bool s275)], [.box [.bool false, .nl, .int .i64 0]])) s275 ?_ ?_
   ·refine kR ?_
    refine kC 3 [0,1,2,6,7,8,9,36] ?_
    refine RJ.caseB 36 (b := (decide (x2 < (-1099511627776)))) (by kernel_rfl) (fun hb280 => ?_) (fun hb280 => ?_)
    ·have h281 := condT hb280 hy277
     refine kC 3 [0,1,2,6,7,8,9,39] ?_
     refine kE ?_
     obtain rfl := oi h281
     exact kN [0, 1, 2, 6, 7, 8, 9, 39]
    ·have h282 := condF hb280 hy277
     refine kC 3 [0,1,2,6,7,8,9,39] ?_
     refine kE ?_
     obtain rfl := oi h282
     exact kN [0, 1, 2, 6, 7, 8, 9, 39]
   ·refine J.caseB 39 (b := s275) (by kernel_rfl) (fun hb283 => ?_) (fun hb283 => ?_)
    ·have h284 := condT hb283 h279
     refine kT ?_
     refine kSR ?_
     refine kC 3 [0,1,2,6,7,8,9] ?_
     refine kEN ?_
     refine kX ?_
     obtain rfl := oi h284
     have h286 := joinX_inr h270
     refine PJ.cutXr (fun e => nomatch e) ?_
     obtain rfl := oi h286
     refine PJ.res (v1 := .tup [.agg [.bool false, .nl, .int .i64 0], .int .i64 11]) (Le.tup (.cons (Le.agg (.cons (Le.refl _) (.cons (Le.nl _) (.cons (Le.refl _) .nil)))) (.cons (Le.refl _) .nil))) ?_
     exact kZ hFn hFH hFD
    ·have h285 := condF hb283 h279
     refine kF ?_
     refine kK ?_
     obtain rfl := oi h285
     exact PJ.cutXl [0, 1, 2, 6, 7, 8, 9] (by kernel_rfl) (by kernel_rfl)
  ·subst hs
   have h271 := joinX_inl h270
   refine kS ?_
   refine kSR ?_
   refine kC 2 [0,1,2,6,7,8,9,42] ?_
   refine kEN ?_
   refine J.caseB 42 (b := (decide (s124.1 < 0))) (by kernel_rfl) (fun hb287 => ?_) (fun hb287 => ?_)
   ·have h288 := condT hb287 h271
    refine kT ?_
    refine kSR ?_
    refine kC 4 [0,1,2,6,7,8,9] ?_
    refine kEN ?_
    refine kX ?_
    refine PJ.passRet ?_
    obtain rfl := oi h288
    refine PJ.res (v1 := .tup [.agg [.bool x0, .nl, .int .i64 0], .int .i64 0]) (Le.tup (.cons (Le.agg (.cons (Le.refl _) (.cons (Le.nl _) (.cons (Le.refl _) .nil)))) (.cons (Le.refl _) .nil))) ?_
    exact kZ hFn hFH hFD
   ·have h289 := condF hb287 h271
    refine kF ?_
    refine kK ?_
    refine PJ.next ?_
    refine kSR ?_
    refine kC 5 [1,2,6,7,9,45,46,47,49] ?_
    obtain ⟨hm, h290⟩ := asrt h289
    refine RJ.rel (d := (some 50)) (ef := ⟨.lst (((IntKind.wrap .i64 (s124.2 + 1)) : Int).toNat - (s124.1 : Int).toNat) 1 (((x1.flatMap (encI .u8)).take (((IntKind.wrap .i64 (s124.2 + 1)) : Int).toNat * 1)).drop ((s124.1 : Int).toNat * 1)), [], []⟩) (ef' := ⟨.lst (cut x1 s124.1 (IntKind.wrap .i64 (s124.2 + 1))).length 1 ((cut x1 s124.1 (IntKind.wrap .i64 (s124.2 + 1))).flatMap (encI .u8)), [], []⟩) (c := inS s124.1 (IntKind.wrap .i64 (s124.2 + 1)) x1.length) (tr2 := []) (H2 := [.box [.bool false, .nl, .int .i64 0]]) (by kernel_rfl) hm (fun hc => N.slice (encI_len .u8) hc) (by kernel_rfl) ?_
    refine kC 10 [6,7,11] ?_
    refine kEN ?_
    refine kSR ?_
    refine RJ.seg 1 [6, 7, 11, 59] (L2 := [(6, .ptr 0 0), (7, .int .i64 0), (11, .ptr 1 0), (59, .agg [.bool x0, lsv (encI .u8) 1 ((cut x1 s124.1 (IntKind.wrap .i64 (s124.2 + 1)))), .int .i64 ((IntKind.wrap .i64 (((IntKind.wrap .i64 (((IntKind.wrap .i64 (x2 + (x1.length : Int)))) - 1))) - s124.2)))])]) (H2 := [.box [.bool false, .nl, .int .i64 0], .box [.bool x0, lsv (encI .u8) 1 ((cut x1 s124.1 (IntKind.wrap .i64 (s124.2 + 1)))), .int .i64 ((IntKind.wrap .i64 (((IntKind.wrap .i64 (((IntKind.wrap .i64 (x2 + (x1.length : Int)))) - 1))) - s124.2)))]]) (by kernel_rfl) ?_
    obtain ⟨y291, hy292, h293⟩ := bindS h290
    refine RJ.call0 (d := (some 60)) (f := 26) (args := [.agg [.bool x0, lsv (encI .u8) 1 ((cut x1 s124.1 (IntKind.wrap .i64 (s124.2 + 1)))), .int .i64 ((IntKind.wrap .i64 (((IntKind.wrap .i64 (((IntKind.wrap .i64 (x2 + (x1.length : Int)))) - 1))) - s124.2)))]]) (v := .bool y291) (tr2 := []) (by kernel_rfl) (by kernel_rfl) (.cons (Le.refl _) .nil) (exergueref05_Right_ok hy292) (by kernel_rfl) ?_
    refine kC 1 [6,7,11,12] ?_
    refine kEN ?_
    refine kS ?_
    refine kSR ?_
    refine kC 2 [6,7,11,62] ?_
    refine kEN ?_
    refine J.caseB 62 (b := (!y291)) (by kernel_rfl) (fun hb294 => ?_) (fun hb294 => ?_)
    ·have h295 := condT hb294 h293
     refine kT ?_
     refine kSR ?_
     refine kC 3 [6,7,11] ?_
     refine kEN ?_
     refine kX ?_
     refine PJ.passRet ?_
     obtain rfl := oi h295
     refine PJ.res (v1 := .tup [.agg [.bool false, .nl, .int .i64 0], .int .i64 11]) (Le.tup (.cons (Le.agg (.cons (Le.refl _) (.cons (Le.nl _) (.cons (Le.refl _) .nil)))) (.cons (Le.refl _) .nil))) ?_
     exact kZ hFn hFH hFD
    ·have h296 := condF hb294 h293
     refine kF ?_
     refine kK ?_
     refine PJ.next ?_
     refine kSR ?_
     refine kC 3 [6,7] ?_
     refine kEN ?_
     refine kX ?_
     obtain rfl := oi h296
     exact kZ hFn hFH hFD

def exergueref17_Read (x0 : St22) (x1 : St25) (x2 : List Int) : Option (St28 × Int) :=
 (Option.bind (bif (decide (x1.Exp_ > 0)) then (Option.bind (exergueref17_place x2 x0.Exp_) fun y28 => (bif (decide (y28 = (x2.length : Int))) then (some (.inr ((⟨false, ([] : List Int), 0⟩ : St28), 10))) else (bif inS (IntKind.wrap .i64 (y28 + 1)) (x2.length : Int) x2.length then (Option.bind (exergueref17_exponent x0 ((cut x2 (IntKind.wrap .i64 (y28 + 1)) (x2.length : Int)))) fun y36 => (bif (!y36.2) then (some (.inr ((⟨false, ([] : List Int), 0⟩ : St28), 10))) else (bif inS 0 y28 x2.length then (some (.inl ((cut x2 0 y28), y36.1))) else none))) else none))) else (some (.inl (x2, 0)))) (joinX fun (s20 : (List Int) × Int) => (Option.bind (exergueref17_place s20.1 x0.Dec_) fun y44 => (bif inS 0 y44 s20.1.length then (Option.bind (exergueref13_Ungrouped x0 (cut s20.1 0 y44) x1.G1_ x1.G2_) fun y48 => (bif (decide (¬ y48.2.2 = 0)) then (some ((⟨false, ([] : List Int), 0⟩ : St28), 10)) else (bif room y48.1.length then (Option.bind (bif (decide (y44 < (s20.1.length : Int))) then (bif inS (IntKind.wrap .i64 (y44 + 1)) (s20.1.length : Int) s20.1.length then (Option.bind (exergueref17_figures x0 ((cut s20.1 (IntKind.wrap .i64 (y44 + 1)) (s20.1.length : Int)))) fun y109 => (Option.bind (Option.bind (bif (!y109.2) then (some true) else (some ((decide ((y109.1.length : Int) = 0))))) fun (s136 : Bool) => (bif s136 then (some (.inr (.inr ((⟨false, ([] : List Int), 0⟩ : St28), 10)))) else (some (.inl ())))) (joinX fun (s128 : Unit) => (bif room (y48.1.length + y109.1.length) then (some (.inl ((y109.1.length : Int), (y48.1 ++ y109.1)))) else none)))) else none) else (some (.inl (0, y48.1)))) (joinX fun (s100 : Int × (List Int)) => (Option.bind (exergueref05_Norm false s100.2 (IntKind.wrap .i64 (s20.2 - s100.1))) fun y150 => (bif (decide (¬ y150.2 = 0)) then (some ((⟨false, ([] : List Int), 0⟩ : St28), 10)) else (some (y150.1, 0)))))) else none))) else none))))
theorem exergueref17_Read_ok {x0 : St22} {x1 : St25} {x2 : List Int} {r : St28 × Int} (h : exergueref17_Read x0 x1 x2 = some r) : SC Tryz.prog 19 [.agg (encSt22 x0), .agg (encSt25 x1), lsv (encI .i32) 1 x2] [] (.tup [.agg (encSt28 r.1), .int .i64 r.2]) [] := by
 refine kFn (fn := Tryz.f19) (fun F hFn hFH hFD => ?_)
 unfold exergueref17_Read at h
 refine kSR ?_
 refine kC 4 [2,3,4,6,7] ?_
 refine kEN ?_
 refine kSR ?_
 refine kC 1 [2,3,4,6,7,8] ?_
 refine kEN ?_
 obtain ⟨y21, hy22, h23⟩ := bindS h
 refine K.cutX (by kernel_rfl) (fun (s20 : (List Int) × Int) => ([(2, lsv (encI .i32) 1 s20.1), (3, .ptr 0 0), (4, .ptr 1 0), (6, .ptr 2 0), (7, .int .i64 0), (8, .int .i64 s20.2)], [.box (encSt22 x0), .box (encSt25 x1), .box [.bool false, .nl, .int .i64 0]])) y21 ?_ (fun s20 hs => ?_)
 ·refine kSR ?_
  refine kC 3 [2,3,4,6,7,8,24] ?_
  refine kEN ?_
  refine J.caseB 24 (b := (decide (x1.Exp_ > 0))) (by kernel_rfl) (fun hb25 => ?_) (fun hb25 => ?_)
  ·have h26 := condT hb25 hy22
   refine kT ?_
   refine kSR ?_
   refine RJ.seg 3 [2, 3, 4, 6, 7, 8, 25, 27] (L2 := [(2, lsv (encI .i32) 1 x2), (3, .ptr 0 0), (4, .ptr 1 0), (6, .ptr 2 0), (7, .int .i64 0), (8, .int .i64 0), (25, lsv (encI .i32) 1 x2), (27, .int .i32 x0.Exp_)]) (H2 := [.box (encSt22 x0), .box (encSt25 x1), .box [.bool false, .nl, .int .i64 0]]) (by kernel_rfl) ?_
   obtain ⟨y28, hy29, h30⟩ := bindS h26
   refine RJ.call0 (d := (some 28)) (f := 50) (args := [lsv (encI .i32) 1 x2, .int .i32 x0.Exp_]) (v := .int .i64 y28) (tr2 := []) (by kernel_rfl) (by kernel_rfl) (.cons (Le.refl _) (.cons (Le.refl _) .nil)) (exergueref17_place_ok hy29) (by kernel_rfl) ?_
   refine kC 1 [2,3,4,6,7,8,9] ?_
   refine kEN ?_
   refine kS ?_
   refine kSR ?_
   refine kC 4 [2,3,4,6,7,8,9,32] ?_
   refine kEN ?_
   refine J.caseB 32 (b := (decide (y28 = (x2.length : Int)))) (by kernel_rfl) (fun hb31 => ?_) (fun hb31 => ?_)
   ·have h32 := condT hb31 h30
    refine kT ?_
    refine kSR ?_
    refine kC 3 [2,3,4,6,7,8,9] ?_
    refine kEN ?_
    refine kX ?_
    refine PJ.passRet ?_
    obtain rfl := oi h32
    have h34 := joinX_inr h23
    refine PJ.cutXr (fun e => nomatch e) ?_
    obtain rfl := oi h34
    refine PJ.res (v1 := .tup [.agg [.bool false, .nl, .int .i64 0], .int .i64 10]) (Le.tup (.cons (Le.agg (.cons (Le.refl _) (.cons (Le.nl _) (.cons (Le.refl _) .nil)))) (.cons (Le.refl _) .nil))) ?_
    exact kZ hFn hFH hFD
   ·have h33 := condF hb31 h30
    refine kF ?_
    refine kK ?_
    refine PJ.next ?_
    refine kS ?_
    refine J.keep [2, 3, 4, 6, 7, 8, 9] (L2 := [(2, lsv (encI .i32) 1 x2), (3, .ptr 0 0), (4, .ptr 1 0), (6, .ptr 2 0), (7, .int .i64 0), (8, .int .i64 0), (9, .int .i64 y28)]) (by kernel_rfl) ?_
    refine K.draw (by kernel_rfl) (by kernel_rfl) (by kernel_rfl) (H2 := [.box (encSt22 x0), .box (encSt25 x1), .box [.bool false, .nl, .int .i64 0], .res]) (by kernel_rfl) (n := 3) (by kernel_rfl) ?_
    refine kD 4 ?_
    obtain ⟨hm, h35⟩ := asrt h33
    refine RJ.rel (d := (some 39)) (ef := ⟨.lst (((x2.length : Int) : Int).toNat - ((IntKind.wrap .i64 (y28 + 1)) : Int).toNat) 1 (((x2.flatMap (encI .i32)).take (((x2.length : Int) : Int).toNat * 1)).drop (((IntKind.wrap .i64 (y28 + 1)) : Int).toNat * 1)), [], []⟩) (ef' := ⟨.lst (cut x2 (IntKind.wrap .i64 (y28 + 1)) (x2.length : Int)).length 1 ((cut x2 (IntKind.wrap .i64 (y28 + 1)) (x2.length : Int)).flatMap (encI .i32)), [], []⟩) (c := inS (IntKind.wrap .i64 (y28 + 1)) (x2.length : Int) x2.length) (tr2 := [([0, 1], []), ([], []), ([], []), ([], []), ([], [])]) (H2 := [.box (encSt22 x0), .box (encSt25 x1), .box [.bool false, .nl, .int .i64 0], .res]) (by kernel_rfl) hm (fun hc => N.slice (encI_len .i32) hc) (by kernel_rfl) ?_
    obtain ⟨y36, hy37, h38⟩ := bindS h35
    refine RJ.call0 (d := (some 40)) (f := 51) (args := [.agg (encSt22 x0), lsv (encI .i32) 1 ((cut x2 (IntKind.wrap .i64 (y28 + 1)) (x2.length : Int)))]) (v := .tup [.int .i64 y36.1, .bool y36.2]) (tr2 := [([0, 1], []), ([], []), ([], []), ([], []), ([], []), ([], [6, 7])]) (by kernel_rfl) (by kernel_rfl) (.cons (Le.refl _) (.cons (Le.refl _) .nil)) (exergueref17_exponent_ok hy37) (by kernel_rfl) ?_
    refine RJ.segD 5 (tr2 := [([0, 1], []), ([], []), ([], []), ([], []), ([], []), ([], [6, 7]), ([], []), ([], []), ([], []), ([], []), ([], [])]) (L2 := [(11, .bool y36.2), (10, .int .i64 y36.1), (42, .bool y36.2), (41, .int .i64 y36.1), (34, .tup [.int .i64 y36.1, .bool y36.2]), (40, .tup [.int .i64 y36.1, .bool y36.2]), (39, lsv (encI .i32) 1 ((cut x2 (IntKind.wrap .i64 (y28 + 1)) (x2.length : Int)))), (38, .int .i64 (IntKind.wrap .i64 (y28 + 1))), (37, .int .i64 y28), (36, lsv (encI .i32) 1 x2), (35, .agg (encSt22 x0)), (2, lsv (encI .i32) 1 x2), (3, .ptr 0 0), (4, .ptr 1 0), (6, .ptr 2 0), (7, .int .i64 0), (8, .int .i64 0), (9, .int .i64 y28)]) (H2 := [.box (encSt22 x0), .box (encSt25 x1), .box [.bool false, .nl, .int .i64 0], .res]) (by kernel_rfl) ?_
    refine kEN ?_
    refine kS ?_
    refine kSR ?_
    refine kC 2 [2,3,4,6,7,8,9,10,44] ?_
    refine kEN ?_
    refine J.caseB 44 (b := (!y36.2)) (by kernel_rfl) (fun hb39 => ?_) (fun hb39 => ?_)
    ·have h40 := condT hb39 h38
     refine kT ?_
     refine kSR ?_
     refine kC 3 [2,3,4,6,7,8,9,10] ?_
     refine kEN ?_
     refine kX ?_
     refine PJ.passRet ?_
     obtain rfl := oi h40
     have h42 := joinX_inr h23
     refine PJ.cutXr (fun e => nomatch e) ?_
     obtain rfl := oi h42
     refine PJ.res (v1 := .tup [.agg [.bool false, .nl, .int .i64 0], .int .i64 10]) (Le.tup (.cons (Le.agg (.cons (Le.refl _) (.cons (Le.nl _) (.cons (Le.refl _) .nil)))) (.cons (Le.refl _) .nil))) ?_
     exact kZ hFn hFH hFD
    ·have h41 := condF hb39 h38
     refine kF ?_
     refine kK ?_
     refine PJ.next ?_
     refine kSR ?_
     refine kC 2 [2,3,4,6,7,8,9] ?_
     refine kEN ?_
     refine kR ?_
     refine kC 2 [2,3,4,6,7,8,47,48] ?_
     obtain ⟨hm, h43⟩ := asrt h41
     refine RJ.rel (d := (some 49)) (ef := ⟨.lst ((y28 : Int).toNat - (0 : Int).toNat) 1 (((x2.flatMap (encI .i32)).take ((y28 : Int).toNat * 1)).drop ((0 : Int).toNat * 1)), [], []⟩) (ef' := ⟨.lst (cut x2 0 y28).length 1 ((cut x2 0 y28).flatMap (encI .i32)), [], []⟩) (c := inS 0 y28 x2.length) (tr2 := []) (H2 := [.box (encSt22 x0), .box (encSt25 x1), .box [.bool false, .nl, .int .i64 0], .res]) (by kernel_rfl) hm (fun hc => N.slice (encI_len .i32) hc) (by kernel_rfl) ?_
     refine RJ.seg 1 [2, 3, 4, 6, 7, 8] (L2 := [(2, lsv (encI .i32) 1 (cut x2 0 y28)), (3, .ptr 0 0), (4, .ptr 1 0), (6, .ptr 2 0), (7, .int .i64 0), (8, .int .i64 y36.1)]) (H2 := [.box (encSt22 x0), .box (encSt25 x1), .box [.bool false, .nl, .int .i64 0], .res]) (by kernel_rfl) ?_
     refine kE ?_
     obtain rfl := oi h43
     refine PJ.wk (Wk.sel (L2 := [(2, lsv (encI .i32) 1 (cut x2 0 y28)), (3, .ptr 0 0), (4, .ptr 1 0), (6, .ptr 2 0), (7, .int .i64 0), (8, .int .i64 y36.1)]) (H2 := [.box (encSt22 x0), .box (encSt25 x1), .box [.bool false, .nl, .int .i64 0]]) 0 (by rw [hFH]; rfl) hFD [0, 1, 2] (by kernel_rfl) (by kernel_rfl) (by decide) (by kernel_rfl) (by kernel_rfl) (by kernel_rfl) (by kernel_rfl)) ?_
     exact PJ.cutXl [2, 3, 4, 6, 7, 8] (by kernel_rfl) (by kernel_rfl)
  ·have h27 := condF hb25 hy22
   refine kF ?_
   refine kK ?_
   obtain rfl := oi h27
   exact PJ.cutXl [2, 3, 4, 6, 7, 8] (by kernel_rfl) (by kernel_rfl)
 ·subst hs
  have h24 := joinX_inl h23
  refine kSR ?_
  refine kC 3 [2,3,4,6,7,8,50,52] ?_
  obtain ⟨y44, hy45, h46⟩ := bindS h24
  refine RJ.call0 (d := (some 53)) (f := 50) (args := [lsv (encI .i32) 1 s20.1, .int .i32 x0.Dec_]) (v := .int .i64 y44) (tr2 := []) (by kernel_rfl) (by kernel_rfl) (.cons (Le.refl _) (.cons (Le.refl _) .nil)) (exergueref17_place_ok hy45) (by kernel_rfl) ?_
  refine kC 1 [2,3,4,6,7,8,12] ?_
  refine kEN ?_
  refine kS ?_
  refine J.keep [2, 3, 4, 6, 7, 8, 12] (L2 := [(2, lsv (encI .i32) 1 s20.1), (3, .ptr 0 0), (4, .ptr 1 0), (6, .ptr 2 0), (7, .int .i64 0), (8, .int .i64 s20.2), (12, .int .i64 y44)]) (by kernel_rfl) ?_
  refine K.draw (by kernel_rfl) (by kernel_rfl) (by kernel_rfl) (H2 := [.box (encSt22 x0), .box (encSt25 x1), .box [.bool false, .nl, .int .i64 0], .res]) (by kernel_rfl) (n := 3) (by kernel_rfl) ?_
  refine kD 3 ?_
  obtain ⟨hm, h47⟩ := asrt h46
  refine RJ.rel (d := (some 58)) (ef := ⟨.lst ((y44 : Int).toNat - (0 : Int).toNat) 1 (((s20.1.flatMap (encI .i32)).take ((y44 : Int).toNat * 1)).drop ((0 : Int).toNat * 1)), [], []⟩) (ef' := ⟨.lst (cut s20.1 0 y44).length 1 ((cut s20.1 0 y44).flatMap (encI .i32)), [], []⟩) (c := inS 0 y44 s20.1.length) (tr2 := [([0, 1], []), ([], []), ([], []), ([], [])]) (H2 := [.box (encSt22 x0), .box (encSt25 x1), .box [.bool false, .nl, .int .i64 0], .res]) (by kernel_rfl) hm (fun hc => N.slice (encI_len .i32) hc) (by kernel_rfl) ?_
  refine RJ.segD 4 (tr2 := [([0, 1], []), ([], []), ([], []), ([], []), ([], []), ([2, 3], []), ([], []), ([2, 3], [])]) (L2 := [(62, .int .i64 x1.G2_), (61, .ptr 1 10), (60, .int .i64 x1.G1_), (59, .ptr 1 9), (58, lsv (encI .i32) 1 (cut s20.1 0 y44)), (57, .int .i64 y44), (56, lsv (encI .i32) 1 s20.1), (55, .agg (encSt22 x0)), (2, lsv (encI .i32) 1 s20.1), (3, .ptr 0 0), (4, .ptr 1 0), (6, .ptr 2 0), (7, .int .i64 0), (8, .int .i64 s20.2), (12, .int .i64 y44)]) (H2 := [.box (encSt22 x0), .box (encSt25 x1), .box [.bool false, .nl, .int .i64 0], .res]) (by kernel_rfl) ?_
  obtain ⟨y48, hy49, h50⟩ := bindS h47
  refine RJ.call0 (d := (some 63)) (f := 52) (args := [.agg (encSt22 x0), lsv (encI .i32) 1 (cut s20.1 0 y44), .int .i64 x1.G1_, .int .i64 x1.G2_]) (v := .tup [lsv (encI .u8) 1 y48.1, .int .i64 y48.2.1, .int .i64 y48.2.2]) (tr2 := [([0, 1], []), ([], []), ([], []), ([], []), ([], []), ([2, 3], []), ([], []), ([2, 3], []), ([], [6, 7])]) (by kernel_rfl) (by kernel_rfl) (.cons (Le.refl _) (.cons (Le.refl _) (.cons (Le.refl _) (.cons (Le.refl _) .nil)))) (exergueref13_Ungrouped_ok hy49) (by kernel_rfl) ?_
  refine kD 7 ?_
  refine kEN ?_
  refine kS ?_
  refine kSR ?_
  refine kC 2 [2,3,6,7,8,12,13,68] ?_
  refine kEN ?_
  refine J.caseB 68 (b := (decide (¬ y48.2.2 = 0))) (by kernel_rfl) (fun hb51 => ?_) (fun hb51 => ?_)
  ·have h52 := condT hb51 h50
   refine kT ?_
   refine kSR ?_
   refine kC 3 [2,3,6,7,8,12,13] ?_
   refine kEN ?_
   refine kX ?_
   refine PJ.passRet ?_
   obtain rfl := oi h52
   refine PJ.res (v1 := .tup [.agg [.bool false, .nl, .int .i64 0], .int .i64 10]) (Le.tup (.cons (Le.agg (.cons (Le.refl _) (.cons (Le.nl _) (.cons (Le.refl _) .nil)))) (.cons (Le.refl _) .nil))) ?_
   exact kZ hFn hFH hFD
  ·have h53 := condF hb51 h50
   refine kF ?_
   refine kK ?_
   refine PJ.next ?_
   refine kSR ?_
   refine kC 2 [2,3,6,7,8,12,70,71] ?_
   obtain ⟨hm, h54⟩ := asrt h53
   refine RJ.rel (d := (some 72)) (ef := ⟨.vc 4, [], [(4, .vec y48.1.length 1 5 (y48.1.flatMap (encI .u8)))]⟩) (ef' := ⟨.vc 4, [], [(4, .vec y48.1.length 1 5 (y48.1.flatMap (encI .u8)))]⟩) (c := roomB y48.1.length) (tr2 := []) (H2 := [.box (encSt22 x0), .box (encSt25 x1), .box [.bool false, .nl, .int .i64 0], .res, vecL (encI .u8) 1 5 y48.1]) (by kernel_rfl) (roomB_of_room hm) (fun hc => rfl) (by kernel_rfl) ?_
   refine RJ.seg 1 [2, 3, 6, 7, 8, 12, 16] (L2 := [(2, lsv (encI .i32) 1 s20.1), (3, .ptr 0 0), (6, .ptr 2 0), (7, .int .i64 0), (8, .int .i64 s20.2), (12, .int .i64 y44), (16, .vc 4)]) (H2 := [.box (encSt22 x0), .box (encSt25 x1), .box [.bool false, .nl, .int .i64 0], .res, vecL (encI .u8) 1 5 y48.1]) (by kernel_rfl) ?_
   refine kEN ?_
   refine kSR ?_
   refine kC 1 [2,3,6,7,8,12,16,17] ?_
   refine kEN ?_
   obtain ⟨y101, hy102, h103⟩ := bindS h54
   refine K.cutX (by kernel_rfl) (fun (s100 : Int × (List Int)) => ([(6, .ptr 0 0), (7, .int .i64 0), (8, .int .i64 s20.2), (16, .vc 1), (17, .int .i64 s100.1)], [.box [.bool false, .nl, .int .i64 0], vecL (encI .u8) 1 5 s100.2])) y101 ?_ (fun s100 hs => ?_)
   ·refine kSR ?_
    refine kC 4 [2,3,6,7,8,12,16,17,76] ?_
    refine kEN ?_
    refine J.caseB 76 (b := (decide (y44 < (s20.1.length : Int)))) (by kernel_rfl) (fun hb105 => ?_) (fun hb105 => ?_)
    ·have h106 := condT hb105 hy102
     refine kT ?_
     refine kS ?_
     refine J.keep [2, 3, 6, 7, 8, 12, 16, 17] (L2 := [(2, lsv (encI .i32) 1 s20.1), (3, .ptr 0 0), (6, .ptr 2 0), (7, .int .i64 0), (8, .int .i64 s20.2), (12, .int .i64 y44), (16, .vc 4), (17, .int .i64 0)]) (by kernel_rfl) ?_
     refine K.draw (by kernel_rfl) (by kernel_rfl) (by kernel_rfl) (H2 := [.box (encSt22 x0), .box (encSt25 x1), .box [.bool false, .nl, .int .i64 0], .res, vecL (encI .u8) 1 5 y48.1, .res]) (by kernel_rfl) (n := 5) (by kernel_rfl) ?_
     refine kD 4 ?_
     obtain ⟨hm, h108⟩ := asrt h106
     refine RJ.rel (d := (some 82)) (ef := ⟨.lst (((s20.1.length : Int) : Int).toNat - ((IntKind.wrap .i64 (y44 + 1)) : Int).toNat) 1 (((s20.1.flatMap (encI .i32)).take (((s20.1.length : Int) : Int).toNat * 1)).drop (((IntKind.wrap .i64 (y44 + 1)) : Int).toNat * 1)), [], []⟩) (ef' := ⟨.lst (cut s20.1 (IntKind.wrap .i64 (y44 + 1)) (s20.1.length : Int)).length 1 ((cut s20.1 (IntKind.wrap .i64 (y44 + 1)) (s20.1.length : Int)).flatMap (encI .i32)), [], []⟩) (c := inS (IntKind.wrap .i64 (y44 + 1)) (s20.1.length : Int) s20.1.length) (tr2 := [([0, 1], []), ([], []), ([], []), ([], []), ([], [])]) (H2 := [.box (encSt22 x0), .box (encSt25 x1), .box [.bool false, .nl, .int .i64 0], .res, vecL (encI .u8) 1 5 y48.1, .res]) (by kernel_rfl) hm (fun hc => N.slice (encI_len .i32) hc) (by kernel_rfl) ?_
     obtain ⟨y109, hy110, h111⟩ := bindS h108
     refine RJ.call0 (d := (some 83)) (f := 53) (args := [.agg (encSt22 x0), lsv (encI .i32) 1 ((cut s20.1 (IntKind.wrap .i64 (y44 + 1)) (s20.1.length : Int)))]) (v := .tup [lsv (encI .u8) 1 y109.1, .bool y109.2]) (tr2 := [([0, 1], []), ([], []), ([], []), ([], []), ([], []), ([], [10, 11])]) (by kernel_rfl) (by kernel_rfl) (.cons (Le.refl _) (.cons (Le.refl _) .nil)) (exergueref17_figures_ok hy110) (by kernel_rfl) ?_
     refine RJ.segD 5 (tr2 := [([0, 1], []), ([], []), ([], []), ([], []), ([], []), ([], [10, 11]), ([], []), ([], []), ([], []), ([], []), ([], [])]) (L2 := [(19, .bool y109.2), (18, lsv (encI .u8) 1 y109.1), (85, .bool y109.2), (84, lsv (encI .u8) 1 y109.1), (77, .tup [lsv (encI .u8) 1 y109.1, .bool y109.2]), (83, .tup [lsv (encI .u8) 1 y109.1, .bool y109.2]), (82, lsv (encI .i32) 1 ((cut s20.1 (IntKind.wrap .i64 (y44 + 1)) (s20.1.length : Int)))), (81, .int .i64 (IntKind.wrap .i64 (y44 + 1))), (80, .int .i64 y44), (79, lsv (encI .i32) 1 s20.1), (78, .agg (encSt22 x0)), (2, lsv (encI .i32) 1 s20.1), (3, .ptr 0 0), (6, .ptr 2 0), (7, .int .i64 0), (8, .int .i64 s20.2), (12, .int .i64 y44), (16, .vc 4), (17, .int .i64 0)]) (H2 := [.box (encSt22 x0), .box (encSt25 x1), .box [.bool false, .nl, .int .i64 0], .res, vecL (encI .u8) 1 5 y48.1, .res]) (by kernel_rfl) ?_
     refine kEN ?_
     obtain ⟨y129, hy130, h131⟩ := bindS h111
     refine K.cutX (by kernel_rfl) (fun (s128 : Unit) => ([(6, .ptr 0 0), (7, .int .i64 0), (8, .int .i64 s20.2), (16, .vc 1), (17, .int .i64 0), (18, lsv (encI .u8) 1 y109.1)], [.box [.bool false, .nl, .int .i64 0], vecL (encI .u8) 1 5 y48.1])) y129 ?_ (fun s128 hs => ?_)
     ·obtain ⟨s136, hy138, h140⟩ := bindS hy130
      refine K.cutN (by kernel_rfl) (fun (s136 : Bool) => ([(6, .ptr 0 0), (7, .int .i64 0), (8, .int .i64 s20.2), (16, .vc 1), (17, .int .i64 0), (18, lsv (encI .u8) 1 y109.1), (92, .bool s136)], [.box [.bool false, .nl, .int .i64 0], vecL (encI .u8) 1 5 y48.1])) s136 ?_ ?_
      ·refine kR ?_
       refine kC 3 [6,7,8,16,17,18,88] ?_
       refine RJ.caseB 88 (b := (!y109.2)) (by kernel_rfl) (fun hb141 => ?_) (fun hb141 => ?_)
       ·have h142 := condT hb141 hy138
        refine kC 4 [6,7,8,16,17,18,92] ?_
        refine kE ?_
        obtain rfl := oi h142
        refine PJ.wk (Wk.sel (L2 := [(6, .ptr 0 0), (7, .int .i64 0), (8, .int .i64 s20.2), (16, .vc 1), (17, .int .i64 0), (18, lsv (encI .u8) 1 y109.1), (92, .bool true)]) (H2 := [.box [.bool false, .nl, .int .i64 0], vecL (encI .u8) 1 5 y48.1]) 0 (by rw [hFH]; rfl) hFD [2, 4] (by kernel_rfl) (by kernel_rfl) (by decide) (by kernel_rfl) (by kernel_rfl) (by kernel_rfl) (by kernel_rfl)) ?_
        exact kN [6, 7, 8, 16, 17, 18, 92]
       ·have h143 := condF hb141 hy138
        refine kC 4 [6,7,8,16,17,18,92] ?_
        refine kE ?_
        obtain rfl := oi h143
        refine PJ.wk (Wk.sel (L2 := [(6, .ptr 0 0), (7, .int .i64 0), (8, .int .i64 s20.2), (16, .vc 1), (17, .int .i64 0), (18, lsv (encI .u8) 1 y109.1), (92, .bool ((decide ((y109.1.length : Int) = 0))))]) (H2 := [.box [.bool false, .nl, .int .i64 0], vecL (encI .u8) 1 5 y48.1]) 0 (by rw [hFH]; rfl) hFD [2, 4] (by kernel_rfl) (by kernel_rfl) (by decide) (by kernel_rfl) (by kernel_rfl) (by kernel_rfl) (by kernel_rfl)) ?_
        exact kN [6, 7, 8, 16, 17, 18, 92]
      ·refine J.caseB 92 (b := s136) (by kernel_rfl) (fun hb144 => ?_) (fun hb144 => ?_)
       ·have h145 := condT hb144 h140
        refine kT ?_
        refine kSR ?_
        refine kC 3 [6,7,8,16,17,18] ?_
        refine kEN ?_
        refine kX ?_
        obtain rfl := oi h145
        have h147 := joinX_inr h131
        refine PJ.cutXr (fun e => nomatch e) ?_
        obtain rfl := oi h147
        have h148 := joinX_inr h103
        refine PJ.cutXr (fun e => nomatch e) ?_
        obtain rfl := oi h148
        refine PJ.res (v1 := .tup [.agg [.bool false, .nl, .int .i64 0], .int .i64 10]) (Le.tup (.cons (Le.agg (.cons (Le.refl _) (.cons (Le.nl _) (.cons (Le.refl _) .nil)))) (.cons (Le.refl _) .nil))) ?_
        exact kZ hFn hFH hFD
       ·have h146 := condF hb144 h140
        refine kF ?_
        refine kK ?_
        obtain rfl := oi h146
        exact PJ.cutXl [6, 7, 8, 16, 17, 18] (by kernel_rfl) (by kernel_rfl)
     ·subst hs
      have h132 := joinX_inl h131
      refine kSR ?_
      refine kC 2 [6,7,8,16,17,18,94,95] ?_
      obtain ⟨hm, h149⟩ := asrt h132
      refine RJ.rel (d := (some 96)) (ef := ⟨.vc 2, [1], [(1, .gone), (2, .vec (y48.1.length + y109.1.length) 1 5 (y48.1.flatMap (encI .u8) ++ y109.1.flatMap (encI .u8)))]⟩) (ef' := ⟨.vc 2, [1], [(1, .gone), (2, vecL (encI .u8) 1 5 (y48.1 ++ y109.1))]⟩) (c := roomB (y48.1.length + y109.1.length)) (tr2 := []) (H2 := [.box [.bool false, .nl, .int .i64 0], .gone, vecL (encI .u8) 1 5 (y48.1 ++ y109.1)]) (by kernel_rfl) (roomB_of_room hm) (fun hc => N.app) (by kernel_rfl) ?_
      refine kC 1 [6,7,8,16,17,18] ?_
      refine kEN ?_
      refine kR ?_
      refine kC 3 [6,7,8,16,17] ?_
      refine kE ?_
      obtain rfl := oi h149
      refine PJ.wk (Wk.sel (L2 := [(6, .ptr 0 0), (7, .int .i64 0), (8, .int .i64 s20.2), (16, .vc 1), (17, .int .i64 (y109.1.length : Int))]) (H2 := [.box [.bool false, .nl, .int .i64 0], vecL (encI .u8) 1 5 (y48.1 ++ y109.1)]) 0 (by rw [hFH]; rfl) hFD [0, 2] (by kernel_rfl) (by kernel_rfl) (by decide) (by kernel_rfl) (by kernel_rfl) (by kernel_rfl) (by kernel_rfl)) ?_
      exact PJ.cutXl [6, 7, 8, 16, 17] (by kernel_rfl) (by kernel_rfl)
    ·have h107 := condF hb105 hy102
     refine kF ?_
     refine kK ?_
     obtain rfl := oi h107
     refine PJ.wk (Wk.sel (L2 := [(6, .ptr 0 0), (7, .int .i64 0), (8, .int .i64 s20.2), (16, .vc 1), (17, .int .i64 0)]) (H2 := [.box [.bool false, .nl, .int .i64 0], vecL (encI .u8) 1 5 y48.1]) 0 (by rw [hFH]; rfl) hFD [2, 4] (by kernel_rfl) (by kernel_rfl) (by decide) (by kernel_rfl) (by kernel_rfl) (by kernel_rfl) (by kernel_rfl)) ?_
     exact PJ.cutXl [6, 7, 8, 16, 17] (by kernel_rfl) (by kernel_rfl)
   ·subst hs
    have h104 := joinX_inl h103
    refine kSR ?_
    refine kC 4 [6,7,100,103] ?_
    obtain ⟨y150, hy151, h152⟩ := bindS h104
    refine RJ.wk (Wk.freeze 1 (n := s100.2.length) (k := 1) (e := 5) (cs := s100.2.flatMap (encI .u8)) (by kernel_rfl)) ?_
    refine RJ.call0 (d := (some 104)) (f := 54) (args := [.bool false, lsv (encI .u8) 1 s100.2, .int .i64 (IntKind.wrap .i64 (s20.2 - s100.1))]) (v := .tup [.agg (encSt28 y150.1), .int .i64 y150.2]) (tr2 := []) (by kernel_rfl) (by kernel_rfl) (.cons (Le.refl _) (.cons (Le.refl _) (.cons (Le.refl _) .nil))) (exergueref05_Norm_ok hy151) (by kernel_rfl) ?_
    refine kC 6 [6,7,20,21] ?_
    refine kEN ?_
    refine kS ?_
    refine kSR ?_
    refine kC 2 [6,7,20,108] ?_
    refine kEN ?_
    refine J.caseB 108 (b := (decide (¬ y150.2 = 0))) (by kernel_rfl) (fun hb153 => ?_) (fun hb153 => ?_)
    ·have h154 := condT hb153 h152
     refine kT ?_
     refine kSR ?_
     refine RJ.seg 3 [6, 7, 20] (L2 := [(6, .ptr 0 0), (7, .int .i64 10), (20, .ptr 2 0)]) (H2 := [.box [.bool false, .nl, .int .i64 0], .gone, .box (encSt28 y150.1)]) (by kernel_rfl) ?_
     refine kEN ?_
     refine kX ?_
     refine PJ.passRet ?_
     obtain rfl := oi h154
     refine PJ.res (v1 := .tup [.agg [.bool false, .nl, .int .i64 0], .int .i64 10]) (Le.tup (.cons (Le.agg (.cons (Le.refl _) (.cons (Le.nl _) (.cons (Le.refl _) .nil)))) (.cons (Le.refl _) .nil))) ?_
     exact kZ hFn hFH hFD
    ·have h155 := condF hb153 h152
     refine kF ?_
     refine kK ?_
     refine PJ.next ?_
     refine kSR ?_
     refine RJ.seg 3 [6, 7] (L2 := [(6, .ptr 0 0), (7, .int .i64 0)]) (H2 := [.box (encSt28 y150.1), .gone, .box (encSt28 y150.1)]) (by kernel_rfl) ?_
     refine kEN ?_
     refine kX ?_
     obtain rfl := oi h155
     exact kZ hFn hFH hFD

def exergueref01_Row (x0 : List Int) (x1 : List Int) : Option (Bool) :=
 (bif (decide (¬ (x0.length : Int) = (x1.length : Int))) then (some false) else (Option.bind (loopN (fun (s51 : Int) => (bif (decide (s51 < (x0.length : Int))) then (bif inR s51 x0.length then (bif inR s51 x1.length then (bif (decide (¬ (nth x0 s51) = (nth x1 s51))) then (some (.inr (.inr false))) else (some (.inl (IntKind.wrap .i64 (s51 + 1))))) else none) else none) else (some (.inr (.inl ()))))) big 0) (joinX fun (s46 : Unit) => (some true))))
theorem exergueref01_Row_ok {x0 : List Int} {x1 : List Int} {r : Bool} (h : exergueref01_Row x0 x1 = some r) : SC Tryz.prog 14 [lsv (encI .u8) 1 x0, lsv (encI .u8) 1 x1] [] (.bool r) [] := by
 refine kFn (fn := Tryz.f14) (fun F hFn hFH hFD => ?_)
 unfold exergueref01_Row at h
 refine kSR ?_
 refine kC 1 [0,1,4] ?_
 refine kEN ?_
 refine kS ?_
 refine kSR ?_
 refine kC 5 [0,1,4,10] ?_
 refine kEN ?_
 refine J.caseB 10 (b := (decide (¬ (x0.length : Int) = (x1.length : Int)))) (by kernel_rfl) (fun hb1 => ?_) (fun hb1 => ?_)
 ·have h2 := condT hb1 h
  refine kT ?_
  refine kSR ?_
  refine kC 1 [0,1,4] ?_
  refine kEN ?_
  refine kX ?_
  refine PJ.passRet ?_
  obtain rfl := oi h2
  exact kZ hFn hFH hFD
 ·have h3 := condF hb1 h
  refine kF ?_
  refine kK ?_
  refine PJ.next ?_
  obtain ⟨y47, hy48, h49⟩ := bindS h3
  refine K.cutX (by kernel_rfl) (fun (s46 : Unit) => ([(4, .bool false)], [])) y47 ?_ (fun s46 hs => ?_)
  ·refine kSR ?_
   refine kC 1 [0,1,4,5] ?_
   refine kEN ?_
   refine K.block 0 (by kernel_rfl) ?_
   refine K.loop (by kernel_rfl) (fun (s51 : Int) => ([(0, lsv (encI .u8) 1 x0), (1, lsv (encI .u8) 1 x1), (4, .bool false), (5, .int .i64 s51)], [])) hy48 [0, 1, 4, 5] (by kernel_rfl) (by kernel_rfl) (fun s51 x79 hs78 => ?_)
   refine kS ?_
   refine kSR ?_
   refine kC 4 [0,1,4,5,14] ?_
   refine kEN ?_
   refine J.caseB 14 (b := (decide (s51 < (x0.length : Int)))) (by kernel_rfl) (fun hb80 => ?_) (fun hb80 => ?_)
   ·have h81 := condT hb80 hs78
    refine kT ?_
    refine kK ?_
    refine PJ.next ?_
    refine kS ?_
    refine K.block 1 (by kernel_rfl) ?_
    refine kS ?_
    refine J.keep [0, 1, 4, 5] (L2 := [(0, lsv (encI .u8) 1 x0), (1, lsv (encI .u8) 1 x1), (4, .bool false), (5, .int .i64 s51)]) (by kernel_rfl) ?_
    refine K.draw (by kernel_rfl) (by kernel_rfl) (by kernel_rfl) (H2 := []) (by kernel_rfl) (n := 0) (by kernel_rfl) ?_
    refine kD 2 ?_
    obtain ⟨hm, h83⟩ := asrt h81
    refine RJ.rel (d := (some 19)) (ef := ⟨.ep (((x0.flatMap (encI .u8)).drop ((s51 : Int).toNat * 1)).take 1), [], []⟩) (ef' := ⟨.ep ((encI .u8) (nth x0 s51)), [], []⟩) (c := inR s51 x0.length) (tr2 := [([], []), ([], []), ([], [])]) (H2 := []) (by kernel_rfl) hm (fun hc => N.idx (encI_len .u8) hc) (by kernel_rfl) ?_
    refine kD 3 ?_
    obtain ⟨hm, h84⟩ := asrt h83
    refine RJ.rel (d := (some 23)) (ef := ⟨.ep (((x1.flatMap (encI .u8)).drop ((s51 : Int).toNat * 1)).take 1), [], []⟩) (ef' := ⟨.ep ((encI .u8) (nth x1 s51)), [], []⟩) (c := inR s51 x1.length) (tr2 := [([], []), ([], []), ([], []), ([], []), ([], []), ([], []), ([], [])]) (H2 := []) (by kernel_rfl) hm (fun hc => N.idx (encI_len .u8) hc) (by kernel_rfl) ?_
    refine RJ.segD 2 (tr2 := [([], []), ([], []), ([], []), ([], []), ([], []), ([], []), ([], []), ([], []), ([], [])]) (L2 := [(25, .bool ((decide (¬ (nth x0 s51) = (nth x1 s51))))), (24, .int .u8 (nth x1 s51)), (23, .ep [.int .u8 (nth x1 s51)]), (22, .int .i64 s51), (21, lsv (encI .u8) 1 x1), (20, .int .u8 (nth x0 s51)), (19, .ep [.int .u8 (nth x0 s51)]), (18, .int .i64 s51), (17, lsv (encI .u8) 1 x0), (0, lsv (encI .u8) 1 x0), (1, lsv (encI .u8) 1 x1), (4, .bool false), (5, .int .i64 s51)]) (H2 := []) (by kernel_rfl) ?_
    refine kEN ?_
    refine J.caseB 25 (b := (decide (¬ (nth x0 s51) = (nth x1 s51)))) (by kernel_rfl) (fun hb85 => ?_) (fun hb85 => ?_)
    ·have h86 := condT hb85 h84
     refine kT ?_
     refine kSR ?_
     refine kC 1 [0,1,4,5] ?_
     refine kEN ?_
     refine kX ?_
     refine PJ.blockRet ?_
     refine PJ.passRet ?_
     obtain rfl := oi h86
     refine PJ.loopOut (fun e => nomatch e) (fun he90 => ?_)
     have h88 := congrArg some he90
     refine PJ.blockRet ?_
     obtain rfl := oi h88
     have h89 := joinX_inr h49
     refine PJ.cutXr (fun e => nomatch e) ?_
     obtain rfl := oi h89
     exact kZ hFn hFH hFD
    ·have h87 := condF hb85 h84
     refine kF ?_
     refine kK ?_
     refine PJ.blockNormal ?_
     refine PJ.next ?_
     refine kR ?_
     refine kC 3 [0,1,4,5] ?_
     refine kE ?_
     obtain rfl := oi h87
     exact PJ.loopNext [0, 1, 4, 5] (by kernel_rfl) (by kernel_rfl)
   ·have h82 := condF hb80 hs78
    refine kF ?_
    refine K.exit 0 (by kernel_rfl) ?_
    refine PJ.passExit ?_
    obtain rfl := oi h82
    refine PJ.loopOut (fun e => nomatch e) (fun he92 => ?_)
    have h91 := congrArg some he92
    refine PJ.blockOut ?_
    obtain rfl := oi h91
    exact PJ.cutXl [4] (by kernel_rfl) (by kernel_rfl)
  ·subst hs
   have h50 := joinX_inl h49
   refine kSR ?_
   refine kC 1 [4] ?_
   refine kEN ?_
   refine kX ?_
   obtain rfl := oi h50
   exact kZ hFn hFH hFD

def exergueref05_Same (x0 : St28) (x1 : St28) : Option (Bool) :=
 (Option.bind (exergueref01_Row x0.D_ x1.D_) fun y1 => (Option.bind (bif y1 then (bif (x0.Neg_ == x1.Neg_) then (some (decide (x0.E_ = x1.E_))) else (some false)) else (some false)) fun (s10 : Bool) => (some s10)))
theorem exergueref05_Same_ok {x0 : St28} {x1 : St28} {r : Bool} (h : exergueref05_Same x0 x1 = some r) : SC Tryz.prog 13 [.agg (encSt28 x0), .agg (encSt28 x1)] [] (.bool r) [] := by
 refine kFn (fn := Tryz.f13) (fun F hFn hFH hFD => ?_)
 unfold exergueref05_Same at h
 refine kSR ?_
 refine kC 3 [2,3,4] ?_
 refine kEN ?_
 refine kSR ?_
 refine kC 4 [2,3,4,7,9] ?_
 obtain ⟨y1, hy2, h3⟩ := bindS h
 refine RJ.call0 (d := (some 10)) (f := 14) (args := [lsv (encI .u8) 1 x0.D_, lsv (encI .u8) 1 x1.D_]) (v := .bool y1) (tr2 := []) (by kernel_rfl) (by kernel_rfl) (.cons (Le.refl _) (.cons (Le.refl _) .nil)) (exergueref01_Row_ok hy2) (by kernel_rfl) ?_
 refine kC 1 [2,3,4,5] ?_
 refine kEN ?_
 obtain ⟨s10, hy12, h14⟩ := bindS h3
 refine K.cutN (by kernel_rfl) (fun (s10 : Bool) => ([(4, .bool s10)], [])) s10 ?_ ?_
 ·refine kR ?_
  refine RJ.seg 2 [2, 3, 4, 12] (L2 := [(2, .ptr 0 0), (3, .ptr 1 0), (4, .bool false), (12, .bool y1)]) (H2 := [.box (encSt28 x0), .box (encSt28 x1)]) (by kernel_rfl) ?_
  refine RJ.caseB 12 (b := y1) (by kernel_rfl) (fun hb15 => ?_) (fun hb15 => ?_)
  ·have h16 := condT hb15 hy12
   refine kC 7 [2,3,4,19] ?_
   refine RJ.caseB 19 (b := (x0.Neg_ == x1.Neg_)) (by kernel_rfl) (fun hb18 => ?_) (fun hb18 => ?_)
   ·have h19 := condT hb18 h16
    refine kC 7 [4] ?_
    refine kE ?_
    obtain rfl := oi h19
    refine PJ.wk (Wk.sel (L2 := [(4, .bool (decide (x0.E_ = x1.E_)))]) (H2 := []) 0 (by rw [hFH]; rfl) hFD [] (by kernel_rfl) (by kernel_rfl) (by decide) (by kernel_rfl) (by kernel_rfl) (by kernel_rfl) (by kernel_rfl)) ?_
    exact kN [4]
   ·have h20 := condF hb18 h16
    refine kC 7 [4] ?_
    refine kE ?_
    obtain rfl := oi h20
    refine PJ.wk (Wk.sel (L2 := [(4, .bool false)]) (H2 := []) 0 (by rw [hFH]; rfl) hFD [] (by kernel_rfl) (by kernel_rfl) (by decide) (by kernel_rfl) (by kernel_rfl) (by kernel_rfl) (by kernel_rfl)) ?_
    exact kN [4]
  ·have h17 := condF hb15 hy12
   refine kC 14 [4] ?_
   refine kE ?_
   obtain rfl := oi h17
   refine PJ.wk (Wk.sel (L2 := [(4, .bool false)]) (H2 := []) 0 (by rw [hFH]; rfl) hFD [] (by kernel_rfl) (by kernel_rfl) (by decide) (by kernel_rfl) (by kernel_rfl) (by kernel_rfl) (by kernel_rfl)) ?_
   exact kN [4]
 ·refine kX ?_
  obtain rfl := oi h14
  exact kZ hFn hFH hFD

def exerguelaw17_ShapeReads (x0 : St22) (x1 : St25) (x2 : List Int) : Option (Bool) :=
 (Option.bind exerguelaw17_shown fun y1 => (Option.bind (Option.bind (Option.bind (exerguelaw17_of x1 (-1)) fun y59 => (bif (!y59) then (some true) else (Option.bind (exergueref13_Good x0) fun y65 => (bif (!y65) then (some true) else (some ((decide ((x2.length : Int) > 300)))))))) fun (s54 : Bool) => (bif s54 then (some (.inr y1)) else (some (.inl ())))) (joinX fun (s37 : Unit) => (Option.bind (shape_Read x0 x1 x2) fun y75 => (Option.bind (exergueref17_Read x0 x1 x2) fun y78 => (Option.bind (bif y1 then (Option.bind (exergueref05_Same y75.1 y78.1) fun y98 => (bif y98 then (some (decide (y75.2 = y78.2))) else (some false))) else (some false)) fun (s90 : Bool) => (some s90)))))))
theorem exerguelaw17_ShapeReads_ok {x0 : St22} {x1 : St25} {x2 : List Int} {r : Bool} (h : exerguelaw17_ShapeReads x0 x1 x2 = some r) : SC Tryz.prog 4 [.agg (encSt22 x0), .agg (encSt25 x1), lsv (encI .i32) 1 x2] [] (.bool r) [] := by
 refine kFn (fn := Tryz.f4) (fun F hFn hFH hFD => ?_)
 unfold exerguelaw17_ShapeReads at h
 refine kSR ?_
 refine kC 3 [2,3,4,6] ?_
 refine kEN ?_
 refine kSR ?_
 obtain ⟨y1, hy2, h3⟩ := bindS h
 refine RJ.call0 (d := (some 12)) (f := 5) (args := []) (v := .bool y1) (tr2 := []) (by kernel_rfl) (by kernel_rfl) .nil (exerguelaw17_shown_ok hy2) (by kernel_rfl) ?_
 refine kC 1 [2,3,4,6,7] ?_
 refine kEN ?_
 obtain ⟨y38, hy39, h40⟩ := bindS h3
 refine K.cutX (by kernel_rfl) (fun (s37 : Unit) => ([(2, lsv (encI .i32) 1 x2), (3, .ptr 0 0), (4, .ptr 1 0), (6, .bool false), (7, .bool y1)], [.box (encSt22 x0), .box (encSt25 x1)])) y38 ?_ (fun s37 hs => ?_)
 ·obtain ⟨s54, hy56, h58⟩ := bindS hy39
  refine K.cutN (by kernel_rfl) (fun (s54 : Bool) => ([(2, lsv (encI .i32) 1 x2), (3, .ptr 0 0), (4, .ptr 1 0), (6, .bool false), (7, .bool y1), (25, .bool s54)], [.box (encSt22 x0), .box (encSt25 x1)])) s54 ?_ ?_
  ·refine kR ?_
   refine kC 1 [2,3,4,6,7,13] ?_
   obtain ⟨y59, hy60, h61⟩ := bindS hy56
   refine RJ.call0 (d := (some 14)) (f := 6) (args := [.agg (encSt25 x1), .int .i64 (-1)]) (v := .bool y59) (tr2 := []) (by kernel_rfl) (by kernel_rfl) (.cons (Le.refl _) (.cons (Le.refl _) .nil)) (exerguelaw17_of_ok hy60) (by kernel_rfl) ?_
   refine RJ.seg 2 [2, 3, 4, 6, 7, 16] (L2 := [(2, lsv (encI .i32) 1 x2), (3, .ptr 0 0), (4, .ptr 1 0), (6, .bool false), (7, .bool y1), (16, .bool (!y59))]) (H2 := [.box (encSt22 x0), .box (encSt25 x1)]) (by kernel_rfl) ?_
   refine RJ.caseB 16 (b := (!y59)) (by kernel_rfl) (fun hb62 => ?_) (fun hb62 => ?_)
   ·have h63 := condT hb62 h61
    refine kC 9 [2,3,4,6,7,25] ?_
    refine kE ?_
    obtain rfl := oi h63
    exact kN [2, 3, 4, 6, 7, 25]
   ·have h64 := condF hb62 h61
    refine kC 1 [2,3,4,6,7,16,17] ?_
    obtain ⟨y65, hy66, h67⟩ := bindS h64
    refine RJ.call0 (d := (some 18)) (f := 7) (args := [.agg (encSt22 x0)]) (v := .bool y65) (tr2 := []) (by kernel_rfl) (by kernel_rfl) (.cons (Le.refl _) .nil) (exergueref13_Good_ok hy66) (by kernel_rfl) ?_
    refine kC 3 [2,3,4,6,7,21] ?_
    refine RJ.caseB 21 (b := (!y65)) (by kernel_rfl) (fun hb68 => ?_) (fun hb68 => ?_)
    ·have h69 := condT hb68 h67
     refine kC 4 [2,3,4,6,7,25] ?_
     refine kE ?_
     obtain rfl := oi h69
     exact kN [2, 3, 4, 6, 7, 25]
    ·have h70 := condF hb68 h67
     refine kC 4 [2,3,4,6,7,25] ?_
     refine kE ?_
     obtain rfl := oi h70
     exact kN [2, 3, 4, 6, 7, 25]
  ·refine J.caseB 25 (b := s54) (by kernel_rfl) (fun hb71 => ?_) (fun hb71 => ?_)
   ·have h72 := condT hb71 h58
    refine kT ?_
    refine kSR ?_
    refine kC 2 [2,3,4,6,7] ?_
    refine kEN ?_
    refine kX ?_
    obtain rfl := oi h72
    have h74 := joinX_inr h40
    refine PJ.cutXr (fun e => nomatch e) ?_
    obtain rfl := oi h74
    exact kZ hFn hFH hFD
   ·have h73 := condF hb71 h58
    refine kF ?_
    refine kK ?_
    obtain rfl := oi h73
    exact PJ.cutXl [2, 3, 4, 6, 7] (by kernel_rfl) (by kernel_rfl)
 ·subst hs
  have h41 := joinX_inl h40
  refine kSR ?_
  refine kC 3 [2,3,4,6,7,28,29,30] ?_
  obtain ⟨y75, hy76, h77⟩ := bindS h41
  refine RJ.call0 (d := (some 31)) (f := 18) (args := [.agg (encSt22 x0), .agg (encSt25 x1), lsv (encI .i32) 1 x2]) (v := .tup [.agg (encSt28 y75.1), .int .i64 y75.2]) (tr2 := []) (by kernel_rfl) (by kernel_rfl) (.cons (Le.refl _) (.cons (Le.refl _) (.cons (Le.refl _) .nil))) (shape_Read_ok hy76) (by kernel_rfl) ?_
  refine kC 6 [2,3,4,6,7,8,9] ?_
  refine kEN ?_
  refine kSR ?_
  refine kC 3 [6,7,8,9,35,36,37] ?_
  obtain ⟨y78, hy79, h80⟩ := bindS h77
  refine RJ.call0 (d := (some 38)) (f := 19) (args := [.agg (encSt22 x0), .agg (encSt25 x1), lsv (encI .i32) 1 x2]) (v := .tup [.agg (encSt28 y78.1), .int .i64 y78.2]) (tr2 := []) (by kernel_rfl) (by kernel_rfl) (.cons (Le.refl _) (.cons (Le.refl _) (.cons (Le.refl _) .nil))) (exergueref17_Read_ok hy79) (by kernel_rfl) ?_
  refine RJ.seg 6 [6, 7, 8, 9, 10, 11] (L2 := [(6, .bool false), (7, .bool y1), (8, .ptr 2 0), (9, .int .i64 y75.2), (10, .ptr 3 0), (11, .int .i64 y78.2)]) (H2 := [.box (encSt22 x0), .box (encSt25 x1), .box (encSt28 y75.1), .box (encSt28 y78.1)]) (by kernel_rfl) ?_
  refine kEN ?_
  obtain ⟨s90, hy92, h94⟩ := bindS h80
  refine K.cutN (by kernel_rfl) (fun (s90 : Bool) => ([(6, .bool s90)], [])) s90 ?_ ?_
  ·refine kR ?_
   refine kC 2 [6,8,9,10,11,42] ?_
   refine RJ.caseB 42 (b := y1) (by kernel_rfl) (fun hb95 => ?_) (fun hb95 => ?_)
   ·have h96 := condT hb95 hy92
    refine kC 2 [6,9,11,42,43,44] ?_
    obtain ⟨y98, hy99, h100⟩ := bindS h96
    refine RJ.call0 (d := (some 45)) (f := 13) (args := [.agg (encSt28 y75.1), .agg (encSt28 y78.1)]) (v := .bool y98) (tr2 := []) (by kernel_rfl) (by kernel_rfl) (.cons (Le.refl _) (.cons (Le.refl _) .nil)) (exergueref05_Same_ok hy99) (by kernel_rfl) ?_
    refine kC 2 [6,9,11,47] ?_
    refine RJ.caseB 47 (b := y98) (by kernel_rfl) (fun hb101 => ?_) (fun hb101 => ?_)
    ·have h102 := condT hb101 h100
     refine RJ.seg 5 [6] (L2 := [(6, .bool (decide (y75.2 = y78.2)))]) (H2 := [.box (encSt22 x0), .box (encSt25 x1), .box (encSt28 y75.1), .box (encSt28 y78.1)]) (by kernel_rfl) ?_
     refine kE ?_
     obtain rfl := oi h102
     refine PJ.wk (Wk.sel (L2 := [(6, .bool (decide (y75.2 = y78.2)))]) (H2 := []) 0 (by rw [hFH]; rfl) hFD [] (by kernel_rfl) (by kernel_rfl) (by decide) (by kernel_rfl) (by kernel_rfl) (by kernel_rfl) (by kernel_rfl)) ?_
     exact kN [6]
    ·have h103 := condF hb101 h100
     refine RJ.seg 5 [6] (L2 := [(6, .bool false)]) (H2 := [.box (encSt22 x0), .box (encSt25 x1), .box (encSt28 y75.1), .box (encSt28 y78.1)]) (by kernel_rfl) ?_
     refine kE ?_
     obtain rfl := oi h103
     refine PJ.wk (Wk.sel (L2 := [(6, .bool false)]) (H2 := []) 0 (by rw [hFH]; rfl) hFD [] (by kernel_rfl) (by kernel_rfl) (by decide) (by kernel_rfl) (by kernel_rfl) (by kernel_rfl) (by kernel_rfl)) ?_
     exact kN [6]
   ·have h97 := condF hb95 hy92
    refine kC 10 [6] ?_
    refine kE ?_
    obtain rfl := oi h97
    refine PJ.wk (Wk.sel (L2 := [(6, .bool false)]) (H2 := []) 0 (by rw [hFH]; rfl) hFD [] (by kernel_rfl) (by kernel_rfl) (by decide) (by kernel_rfl) (by kernel_rfl) (by kernel_rfl) (by kernel_rfl)) ?_
    exact kN [6]
  ·refine kX ?_
   obtain rfl := oi h94
   exact kZ hFn hFH hFD

end Go.Proofs.YtcmmjficmoflkaaGreat
