/-
  What the functions of this program come to, as functions of natives, each with the proof that it does. No conditions.
-/
import Derived.Test.YtcldeecdhdcjdaaDoorProg
import Derived.Test.YtcldeecdhdcjdaaDoorSySL
namespace Go.Proofs.YtcldeecdhdcjdaaDoor
open Go Go.Sy Go.RowKit
set_option linter.unusedVariables false
set_option linter.unusedSimpArgs false
set_option maxRecDepth 100000
set_option maxHeartbeats 4000000

/-- What package variables hold for good. -/
def gtabs : Nat → Option (List SV)
 | 0 => some [.int .u64 1, .int .u64 10, .int .u64 100, .int .u64 1000, .int .u64 10000, .int .u64 100000, .int .u64 1000000, .int .u64 10000000, .int .u64 100000000, .int .u64 1000000000, .int .u64 10000000000, .int .u64 100000000000, .int .u64 1000000000000, .int .u64 10000000000000, .int .u64 100000000000000, .int .u64 1000000000000000, .int .u64 10000000000000000, .int .u64 100000000000000000, .int .u64 1000000000000000000, .int .u64 10000000000000000000]
 | _ => none
instance : Inhabited GT := ⟨⟨gtabs⟩⟩

structure St23 where
 Neg_ : Bool
 D_ : List Int
 E_ : Int
 deriving Inhabited, DecidableEq
def encSt23 (x : St23) : List SV := [.bool x.Neg_, lsv (encI .u8) 1 x.D_, .int .i64 x.E_]
theorem encSt23_len (x : St23) : (encSt23 x).length = 3 := rfl

def dec_figures (x0 : List Int) : Option (Bool) :=
 (Option.bind (loopN (fun (s45 : Int) => (bif (decide (s45 < (x0.length : Int))) then (bif inR s45 x0.length then (bif (decide ((nth x0 s45) > 9)) then (some (.inr (.inr false))) else (some (.inl (IntKind.wrap .i64 (s45 + 1))))) else none) else (some (.inr (.inl ()))))) big 0) (joinX fun (s40 : Unit) => (some true)))
theorem dec_figures_ok {x0 : List Int} {r : Bool} (h : dec_figures x0 = some r) : SC Tryd.prog 36 [lsv (encI .u8) 1 x0] [] (.bool r) [] := by
 refine kFn (fn := Tryd.f36) (fun F hFn hFH hFD => ?_)
 unfold dec_figures at h
 refine kSR ?_
 refine kC 1 [0,2] ?_
 refine kEN ?_
 obtain ⟨y41, hy42, h43⟩ := bindS h
 refine K.cutX (by kernel_rfl) (fun (s40 : Unit) => ([(2, .bool false)], [])) y41 ?_ (fun s40 hs => ?_)
 ·refine kSR ?_
  refine kC 3 [2,5,6,7] ?_
  refine kEN ?_
  refine K.block 0 (by kernel_rfl) ?_
  refine K.loop (by kernel_rfl) (fun (s45 : Int) => ([(2, .bool false), (5, lsv (encI .u8) 1 x0), (6, .int .i64 (x0.length : Int)), (7, .int .i64 s45)], [])) hy42 [2, 5, 6, 7] (by kernel_rfl) (by kernel_rfl) (fun s45 x71 hs70 => ?_)
  refine kSR ?_
  refine kC 1 [2,5,6,7,8] ?_
  refine kEN ?_
  refine kS ?_
  refine J.caseB 8 (b := (decide (s45 < (x0.length : Int)))) (by kernel_rfl) (fun hb72 => ?_) (fun hb72 => ?_)
  ·have h73 := condT hb72 hs70
   refine kT ?_
   refine kK ?_
   refine PJ.next ?_
   refine kS ?_
   refine K.block 1 (by kernel_rfl) ?_
   refine kSR ?_
   obtain ⟨hm, h75⟩ := asrt h73
   refine RJ.rel (d := (some 9)) (ef := ⟨.ep (((x0.flatMap (encI .u8)).drop ((s45 : Int).toNat * 1)).take 1), [], []⟩) (ef' := ⟨.ep ((encI .u8) (nth x0 s45)), [], []⟩) (c := inR s45 x0.length) (tr2 := []) (H2 := []) (by kernel_rfl) hm (fun hc => N.idx (encI_len .u8) hc) (by kernel_rfl) ?_
   refine kC 2 [2,4,5,6,7] ?_
   refine kEN ?_
   refine kSR ?_
   refine kC 2 [2,5,6,7,12] ?_
   refine kEN ?_
   refine J.caseB 12 (b := (decide ((nth x0 s45) > 9))) (by kernel_rfl) (fun hb76 => ?_) (fun hb76 => ?_)
   ·have h77 := condT hb76 h75
    refine kT ?_
    refine kSR ?_
    refine RJ.seg 1 [2, 5, 6, 7] (L2 := [(2, .bool false), (5, lsv (encI .u8) 1 x0), (6, .int .i64 (x0.length : Int)), (7, .int .i64 s45)]) (H2 := []) (by kernel_rfl) ?_
    refine kEN ?_
    refine kX ?_
    refine PJ.blockRet ?_
    refine PJ.passRet ?_
    obtain rfl := oi h77
    refine PJ.loopOut (fun e => nomatch e) (fun he81 => ?_)
    have h79 := congrArg some he81
    refine PJ.blockRet ?_
    obtain rfl := oi h79
    have h80 := joinX_inr h43
    refine PJ.cutXr (fun e => nomatch e) ?_
    obtain rfl := oi h80
    exact kZ hFn hFH hFD
   ·have h78 := condF hb76 h75
    refine kF ?_
    refine kK ?_
    refine PJ.blockNormal ?_
    refine PJ.next ?_
    refine kR ?_
    refine RJ.seg 2 [2, 5, 6, 7] (L2 := [(2, .bool false), (5, lsv (encI .u8) 1 x0), (6, .int .i64 (x0.length : Int)), (7, .int .i64 (IntKind.wrap .i64 (s45 + 1)))]) (H2 := []) (by kernel_rfl) ?_
    refine kE ?_
    obtain rfl := oi h78
    exact PJ.loopNext [2, 5, 6, 7] (by kernel_rfl) (by kernel_rfl)
  ·have h74 := condF hb72 hs70
   refine kF ?_
   refine K.exit 0 (by kernel_rfl) ?_
   refine PJ.passExit ?_
   obtain rfl := oi h74
   refine PJ.loopOut (fun e => nomatch e) (fun he83 => ?_)
   have h82 := congrArg some he83
   refine PJ.blockOut ?_
   obtain rfl := oi h82
   exact PJ.cutXl [2] (by kernel_rfl) (by kernel_rfl)
 ·subst hs
  have h44 := joinX_inl h43
  refine kSR ?_
  refine kC 1 [2] ?_
  refine kEN ?_
  refine kX ?_
  obtain rfl := oi h44
  exact kZ hFn hFH hFD

def slices_Clone (x0 : List Int) : Option (List Int) :=
 (bif (Nat.beq x0.length 0) then agree (some ([] : List Int)) (bif room x0.length then (some x0) else none) else (bif room x0.length then (some x0) else none))
theorem slices_Clone_ok {x0 : List Int} {r : List Int} (h : slices_Clone x0 = some r) : SC Tryd.prog 33 [lsv (encI .u8) 1 x0] [] (lsv (encI .u8) 1 r) [] := by
 refine kFn (fn := Tryd.f33) (fun F hFn hFH hFD => ?_)
 unfold slices_Clone at h
 refine kSR ?_
 refine kC 1 [0,2] ?_
 refine kEN ?_
 refine kS ?_
 refine kSR ?_
 refine kC 1 [0,2,3] ?_
 refine RJ.isNil (d := 4) (n := x0.length) (eq := true) (by kernel_rfl) (fun b hb3 => ?_)
 cases b
 ·have h2 := agreeF h
  refine kEN ?_
  refine kF ?_
  refine kK ?_
  refine PJ.next ?_
  refine kSR ?_
  refine kC 2 [2,5,6] ?_
  obtain ⟨hm, h4⟩ := asrt h2
  refine RJ.rel (d := (some 7)) (ef := ⟨.vc 0, [], [(0, .vec x0.length 1 5 (x0.flatMap (encI .u8)))]⟩) (ef' := ⟨.vc 0, [], [(0, .vec x0.length 1 5 (x0.flatMap (encI .u8)))]⟩) (c := roomB x0.length) (tr2 := []) (H2 := [vecL (encI .u8) 1 5 x0]) (by kernel_rfl) (roomB_of_room hm) (fun hc => rfl) (by kernel_rfl) ?_
  refine RJ.seg 1 [2] (L2 := [(2, .vc 0)]) (H2 := [vecL (encI .u8) 1 5 x0]) (by kernel_rfl) ?_
  refine kEN ?_
  refine kX ?_
  obtain rfl := oi h4
  refine PJ.wk (Wk.freeze 0 (n := x0.length) (k := 1) (e := 5) (cs := x0.flatMap (encI .u8)) (by kernel_rfl)) ?_
  exact kZ hFn hFH hFD
 ·have h1 := agreeT (by rw [hb3 rfl]; rfl) h
  refine kEN ?_
  refine kT ?_
  refine kSR ?_
  refine kC 1 [0,2] ?_
  refine kEN ?_
  refine kX ?_
  refine PJ.passRet ?_
  obtain rfl := oi h1
  refine PJ.res (v1 := .nl) (Le.nl _) ?_
  exact kZ hFn hFH hFD

def dec_Right (x0 : St23) : Option (Bool) :=
 (bif (decide ((x0.D_.length : Int) = 0)) then (some (decide (x0.E_ = 0))) else (Option.bind (Option.bind (bif (decide ((x0.D_.length : Int) > 1000)) then (some true) else (bif (decide (x0.E_ < (-1000))) then (some true) else (some (decide (x0.E_ > 1000))))) fun (s36 : Bool) => (bif s36 then (some (.inr false)) else (some (.inl ())))) (joinX fun (s25 : Unit) => (Option.bind (bif inR 0 x0.D_.length then (bif (decide (¬ (nth x0.D_ 0) = 0)) then (bif inR ((IntKind.wrap .i64 ((x0.D_.length : Int) - 1))) x0.D_.length then (bif (decide (¬ ((nth x0.D_ ((IntKind.wrap .i64 ((x0.D_.length : Int) - 1))))) = 0)) then (Option.bind (dec_figures x0.D_) fun y75 => (some y75)) else (some false)) else none) else (some false)) else none) fun (s62 : Bool) => (some s62)))))
theorem dec_Right_ok {x0 : St23} {r : Bool} (h : dec_Right x0 = some r) : SC Tryd.prog 24 [.agg (encSt23 x0)] [] (.bool r) [] := by
 refine kFn (fn := Tryd.f24) (fun F hFn hFH hFD => ?_)
 unfold dec_Right at h
 refine kSR ?_
 refine kC 2 [1,2] ?_
 refine kEN ?_
 refine kSR ?_
 refine kC 4 [1,2,3] ?_
 refine kEN ?_
 refine kS ?_
 refine kSR ?_
 refine kC 2 [1,2,3,8] ?_
 refine kEN ?_
 refine J.caseB 8 (b := (decide ((x0.D_.length : Int) = 0))) (by kernel_rfl) (fun hb1 => ?_) (fun hb1 => ?_)
 ·have h2 := condT hb1 h
  refine kT ?_
  refine kSR ?_
  refine RJ.seg 4 [1, 2, 3] (L2 := [(1, .ptr 0 0), (2, .bool (decide (x0.E_ = 0))), (3, .int .i64 (x0.D_.length : Int))]) (H2 := [.box (encSt23 x0)]) (by kernel_rfl) ?_
  refine kEN ?_
  refine kX ?_
  refine PJ.passRet ?_
  obtain rfl := oi h2
  exact kZ hFn hFH hFD
 ·have h3 := condF hb1 h
  refine kF ?_
  refine kK ?_
  refine PJ.next ?_
  obtain ⟨y26, hy27, h28⟩ := bindS h3
  refine K.cutX (by kernel_rfl) (fun (s25 : Unit) => ([(1, .ptr 0 0), (2, .bool false), (3, .int .i64 (x0.D_.length : Int))], [.box (encSt23 x0)])) y26 ?_ (fun s25 hs => ?_)
  ·obtain ⟨s36, hy38, h40⟩ := bindS hy27
   refine K.cutN (by kernel_rfl) (fun (s36 : Bool) => ([(1, .ptr 0 0), (2, .bool false), (3, .int .i64 (x0.D_.length : Int)), (23, .bool s36)], [.box (encSt23 x0)])) s36 ?_ ?_
   ·refine kR ?_
    refine RJ.seg 3 [1, 2, 3, 14] (L2 := [(1, .ptr 0 0), (2, .bool false), (3, .int .i64 (x0.D_.length : Int)), (14, .bool ((decide ((x0.D_.length : Int) > 1000))))]) (H2 := [.box (encSt23 x0)]) (by kernel_rfl) ?_
    refine RJ.caseB 14 (b := (decide ((x0.D_.length : Int) > 1000))) (by kernel_rfl) (fun hb41 => ?_) (fun hb41 => ?_)
    ·have h42 := condT hb41 hy38
     refine kC 9 [1,2,3,23] ?_
     refine kE ?_
     obtain rfl := oi h42
     exact kN [1, 2, 3, 23]
    ·have h43 := condF hb41 hy38
     refine kC 5 [1,2,3,19] ?_
     refine RJ.caseB 19 (b := (decide (x0.E_ < (-1000)))) (by kernel_rfl) (fun hb44 => ?_) (fun hb44 => ?_)
     ·have h45 := condT hb44 h43
      refine kC 4 [1,2,3,23] ?_
      refine kE ?_
      obtain rfl := oi h45
      exact kN [1, 2, 3, 23]
     ·have h46 := condF hb44 h43
      refine kC 4 [1,2,3,23] ?_
      refine kE ?_
      obtain rfl := oi h46
      exact kN [1, 2, 3, 23]
   ·refine J.caseB 23 (b := s36) (by kernel_rfl) (fun hb47 => ?_) (fun hb47 => ?_)
    ·have h48 := condT hb47 h40
     refine kT ?_
     refine kSR ?_
     refine kC 1 [1,2,3] ?_
     refine kEN ?_
     refine kX ?_
     obtain rfl := oi h48
     have h50 := joinX_inr h28
     refine PJ.cutXr (fun e => nomatch e) ?_
     obtain rfl := oi h50
     exact kZ hFn hFH hFD
    ·have h49 := condF hb47 h40
     refine kF ?_
     refine kK ?_
     obtain rfl := oi h49
     exact PJ.cutXl [1, 2, 3] (by kernel_rfl) (by kernel_rfl)
  ·subst hs
   have h29 := joinX_inl h28
   obtain ⟨s62, hy64, h66⟩ := bindS h29
   refine K.cutN (by kernel_rfl) (fun (s62 : Bool) => ([(2, .bool s62)], [])) s62 ?_ ?_
   ·refine kR ?_
    refine kC 2 [1,2,3,25] ?_
    obtain ⟨hm, h67⟩ := asrt hy64
    refine RJ.rel (d := (some 26)) (ef := ⟨.ep (((x0.D_.flatMap (encI .u8)).drop ((0 : Int).toNat * 1)).take 1), [], []⟩) (ef' := ⟨.ep ((encI .u8) (nth x0.D_ 0)), [], []⟩) (c := inR 0 x0.D_.length) (tr2 := []) (H2 := [.box (encSt23 x0)]) (by kernel_rfl) hm (fun hc => N.idx (encI_len .u8) hc) (by kernel_rfl) ?_
    refine kC 3 [1,2,3,29] ?_
    refine RJ.caseB 29 (b := (decide (¬ (nth x0.D_ 0) = 0))) (by kernel_rfl) (fun hb68 => ?_) (fun hb68 => ?_)
    ·have h69 := condT hb68 h67
     refine kC 4 [1,2,29,31,33] ?_
     obtain ⟨hm, h71⟩ := asrt h69
     refine RJ.rel (d := (some 34)) (ef := ⟨.ep (((x0.D_.flatMap (encI .u8)).drop (((IntKind.wrap .i64 ((x0.D_.length : Int) - 1)) : Int).toNat * 1)).take 1), [], []⟩) (ef' := ⟨.ep ((encI .u8) (nth x0.D_ ((IntKind.wrap .i64 ((x0.D_.length : Int) - 1))))), [], []⟩) (c := inR ((IntKind.wrap .i64 ((x0.D_.length : Int) - 1))) x0.D_.length) (tr2 := []) (H2 := [.box (encSt23 x0)]) (by kernel_rfl) hm (fun hc => N.idx (encI_len .u8) hc) (by kernel_rfl) ?_
     refine RJ.seg 4 [1, 2, 38] (L2 := [(1, .ptr 0 0), (2, .bool false), (38, .bool ((decide (¬ ((nth x0.D_ ((IntKind.wrap .i64 ((x0.D_.length : Int) - 1))))) = 0))))]) (H2 := [.box (encSt23 x0)]) (by kernel_rfl) ?_
     refine RJ.caseB 38 (b := (decide (¬ ((nth x0.D_ ((IntKind.wrap .i64 ((x0.D_.length : Int) - 1))))) = 0))) (by kernel_rfl) (fun hb72 => ?_) (fun hb72 => ?_)
     ·have h73 := condT hb72 h71
      refine kC 2 [2,38,40] ?_
      obtain ⟨y75, hy76, h77⟩ := bindS h73
      refine RJ.call0 (d := (some 41)) (f := 36) (args := [lsv (encI .u8) 1 x0.D_]) (v := .bool y75) (tr2 := []) (by kernel_rfl) (by kernel_rfl) (.cons (Le.refl _) .nil) (dec_figures_ok hy76) (by kernel_rfl) ?_
      refine kC 2 [2] ?_
      refine kE ?_
      obtain rfl := oi h77
      refine PJ.wk (Wk.sel (L2 := [(2, .bool y75)]) (H2 := []) 0 (by rw [hFH]; rfl) hFD [] (by kernel_rfl) (by kernel_rfl) (by decide) (by kernel_rfl) (by kernel_rfl) (by kernel_rfl) (by kernel_rfl)) ?_
      exact kN [2]
     ·have h74 := condF hb72 h71
      refine kC 5 [2] ?_
      refine kE ?_
      obtain rfl := oi h74
      refine PJ.wk (Wk.sel (L2 := [(2, .bool false)]) (H2 := []) 0 (by rw [hFH]; rfl) hFD [] (by kernel_rfl) (by kernel_rfl) (by decide) (by kernel_rfl) (by kernel_rfl) (by kernel_rfl) (by kernel_rfl)) ?_
      exact kN [2]
    ·have h70 := condF hb68 h67
     refine kC 14 [2] ?_
     refine kE ?_
     obtain rfl := oi h70
     refine PJ.wk (Wk.sel (L2 := [(2, .bool false)]) (H2 := []) 0 (by rw [hFH]; rfl) hFD [] (by kernel_rfl) (by kernel_rfl) (by decide) (by kernel_rfl) (by kernel_rfl) (by kernel_rfl) (by kernel_rfl)) ?_
     exact kN [2]
   ·refine kX ?_
    obtain rfl := oi h66
    exact kZ hFn hFH hFD

def dec_Norm (x0 : Bool) (x1 : List Int) (x2 : Int) : Option (St23 × Int) :=
 (Option.bind (dec_figures x1) fun y1 => (bif (!y1) then (some ((⟨false, ([] : List Int), 0⟩ : St23), 1)) else (Option.bind (Option.bind (bif (decide (x2 < (-1099511627776))) then (some true) else (some (decide (x2 > 1099511627776)))) fun (s30 : Bool) => (bif s30 then (some (.inr ((⟨false, ([] : List Int), 0⟩ : St23), 11))) else (some (.inl ())))) (joinX fun (s22 : Unit) => (Option.bind (loopN (fun (s179 : Int) => (Option.bind (Option.bind (bif (decide (s179 < (x1.length : Int))) then (bif inR s179 x1.length then (some ((decide ((nth x1 s179) = 0)))) else none) else (some false)) fun (s296 : Bool) => (bif s296 then (some (.inl ())) else (some (.inr (.inr s179))))) (joinX fun (s287 : Unit) => (some (.inl (IntKind.wrap .i64 (s179 + 1))))))) big 0) fun (s174 : Int) => (Option.bind (loopN (fun (s448 : Int) => (Option.bind (Option.bind (bif (decide (s174 < s448)) then (bif inR (IntKind.wrap .i64 (s448 - 1)) x1.length then (some ((decide (((nth x1 (IntKind.wrap .i64 (s448 - 1)))) = 0)))) else none) else (some false)) fun (s565 : Bool) => (bif s565 then (some (.inl ())) else (some (.inr (.inr s448))))) (joinX fun (s556 : Unit) => (some (.inl (IntKind.wrap .i64 (s448 - 1))))))) big (x1.length : Int)) fun (s443 : Int) => (bif (decide (s174 = s443)) then (some ((⟨x0, ([] : List Int), 0⟩ : St23), 0)) else (bif inS s174 s443 x1.length then (Option.bind (slices_Clone (cut x1 s174 s443)) fun y584 => (Option.bind (dec_Right ((⟨x0, y584, (IntKind.wrap .i64 (((IntKind.wrap .i64 (x2 + (x1.length : Int)))) - s443))⟩ : St23))) fun y587 => (bif (!y587) then (some ((⟨false, ([] : List Int), 0⟩ : St23), 11)) else (some ((⟨x0, y584, (IntKind.wrap .i64 (((IntKind.wrap .i64 (x2 + (x1.length : Int)))) - s443))⟩ : St23), 0))))) else none))))))))
theorem dec_Norm_ok {x0 : Bool} {x1 : List Int} {x2 : Int} {r : St23 × Int} (h : dec_Norm x0 x1 x2 = some r) : SC Tryd.prog 22 [.bool x0, lsv (encI .u8) 1 x1, .int .i64 x2] [] (.tup [.agg (encSt23 r.1), .int .i64 r.2]) [] := by
 refine kFn (fn := Tryd.f22) (fun F hFn hFH hFD => ?_)
 unfold dec_Norm at h
 refine kSR ?_
 refine kC 2 [0,1,2,6,7] ?_
 refine kEN ?_
 refine kS ?_
 refine kSR ?_
 refine kC 1 [0,1,2,6,7,11] ?_
 obtain ⟨y1, hy2, h3⟩ := bindS h
 refine RJ.call0 (d := (some 12)) (f := 36) (args := [lsv (encI .u8) 1 x1]) (v := .bool y1) (tr2 := []) (by kernel_rfl) (by kernel_rfl) (.cons (Le.refl _) .nil) (dec_figures_ok hy2) (by kernel_rfl) ?_
 refine kC 1 [0,1,2,6,7,13] ?_
 refine kEN ?_
 refine J.caseB 13 (b := (!y1)) (by kernel_rfl) (fun hb4 => ?_) (fun hb4 => ?_)
 ·have h5 := condT hb4 h3
  refine kT ?_
  refine kSR ?_
  refine RJ.seg 3 [0, 1, 2, 6, 7] (L2 := [(0, .bool x0), (1, lsv (encI .u8) 1 x1), (2, .int .i64 x2), (6, .ptr 0 0), (7, .int .i64 1)]) (H2 := [.box [.bool false, .nl, .int .i64 0]]) (by kernel_rfl) ?_
  refine kEN ?_
  refine kX ?_
  refine PJ.passRet ?_
  obtain rfl := oi h5
  refine PJ.res (v1 := .tup [.agg [.bool false, .nl, .int .i64 0], .int .i64 1]) (Le.tup (.cons (Le.agg (.cons (Le.refl _) (.cons (Le.nl _) (.cons (Le.refl _) .nil)))) (.cons (Le.refl _) .nil))) ?_
  exact kZ hFn hFH hFD
 ·have h6 := condF hb4 h3
  refine kF ?_
  refine kK ?_
  refine PJ.next ?_
  obtain ⟨y23, hy24, h25⟩ := bindS h6
  refine K.cutX (by kernel_rfl) (fun (s22 : Unit) => ([(0, .bool x0), (1, lsv (encI .u8) 1 x1), (2, .int .i64 x2), (6, .ptr 0 0), (7, .int .i64 0)], [.box [.bool false, .nl, .int .i64 0]])) y23 ?_ (fun s22 hs => ?_)
  ·obtain ⟨s30, hy32, h34⟩ := bindS hy24
   refine K.cutN (by kernel_rfl) (fun (s30 : Bool) => ([(0, .bool x0), (1, lsv (encI .u8) 1 x1), (2, .int .i64 x2), (6, .ptr 0 0), (7, .int .i64 0), (20, .bool s30)], [.box [.bool false, .nl, .int .i64 0]])) s30 ?_ ?_
   ·refine kR ?_
    refine RJ.seg 3 [0, 1, 2, 6, 7, 17] (L2 := [(0, .bool x0), (1, lsv (encI .u8) 1 x1), (2, .int .i64 x2), (6, .ptr 0 0), (7, .int .i64 0), (17, .bool ((decide (x2 < (-1099511627776)))))]) (H2 := [.box [.bool false, .nl, .int .i64 0]]) (by kernel_rfl) ?_
    refine RJ.caseB 17 (b := (decide (x2 < (-1099511627776)))) (by kernel_rfl) (fun hb35 => ?_) (fun hb35 => ?_)
    ·have h36 := condT hb35 hy32
     refine kC 3 [0,1,2,6,7,20] ?_
     refine kE ?_
     obtain rfl := oi h36
     exact kN [0, 1, 2, 6, 7, 20]
    ·have h37 := condF hb35 hy32
     refine kC 3 [0,1,2,6,7,20] ?_
     refine kE ?_
     obtain rfl := oi h37
     exact kN [0, 1, 2, 6, 7, 20]
   ·refine J.caseB 20 (b := s30) (by kernel_rfl) (fun hb38 => ?_) (fun hb38 => ?_)
    ·have h39 := condT hb38 h34
     refine kT ?_
     refine kSR ?_
     refine kC 3 [0,1,2,6,7] ?_
     refine kEN ?_
     refine kX ?_
     obtain rfl := oi h39
     have h41 := joinX_inr h25
     refine PJ.cutXr (fun e => nomatch e) ?_
     obtain rfl := oi h41
     refine PJ.res (v1 := .tup [.agg [.bool false, .nl, .int .i64 0], .int .i64 11]) (Le.tup (.cons (Le.agg (.cons (Le.refl _) (.cons (Le.nl _) (.cons (Le.refl _) .nil)))) (.cons (Le.refl _) .nil))) ?_
     exact kZ hFn hFH hFD
    ·have h40 := condF hb38 h34
     refine kF ?_
     refine kK ?_
     obtain rfl := oi h40
     exact PJ.cutXl [0, 1, 2, 6, 7] (by kernel_rfl) (by kernel_rfl)
  ·subst hs
   have h26 := joinX_inl h25
   refine kSR ?_
   refine kC 4 [0,1,2,6,7,8,9] ?_
   refine kEN ?_
   obtain ⟨s174, hy176, h178⟩ := bindS h26
   refine K.cutN (by kernel_rfl) (fun (s174 : Int) => ([(0, .bool x0), (1, lsv (encI .u8) 1 x1), (2, .int .i64 x2), (6, .ptr 0 0), (7, .int .i64 0), (8, .int .i64 s174), (9, .int .i64 (x1.length : Int))], [.box [.bool false, .nl, .int .i64 0]])) s174 ?_ ?_
   ·refine K.block 0 (by kernel_rfl) ?_
    refine K.loop (by kernel_rfl) (fun (s179 : Int) => ([(0, .bool x0), (1, lsv (encI .u8) 1 x1), (2, .int .i64 x2), (6, .ptr 0 0), (7, .int .i64 0), (8, .int .i64 s179), (9, .int .i64 (x1.length : Int))], [.box [.bool false, .nl, .int .i64 0]])) hy176 [0, 1, 2, 6, 7, 8, 9] (by kernel_rfl) (by kernel_rfl) (fun s179 x267 hs266 => ?_)
    obtain ⟨y288, hy289, h290⟩ := bindS hs266
    refine K.cutX (by kernel_rfl) (fun (s287 : Unit) => ([(0, .bool x0), (1, lsv (encI .u8) 1 x1), (2, .int .i64 x2), (6, .ptr 0 0), (7, .int .i64 0), (8, .int .i64 s179), (9, .int .i64 (x1.length : Int))], [.box [.bool false, .nl, .int .i64 0]])) y288 ?_ (fun s287 hs => ?_)
    ·obtain ⟨s296, hy298, h300⟩ := bindS hy289
     refine K.cutN (by kernel_rfl) (fun (s296 : Bool) => ([(0, .bool x0), (1, lsv (encI .u8) 1 x1), (2, .int .i64 x2), (6, .ptr 0 0), (7, .int .i64 0), (8, .int .i64 s179), (9, .int .i64 (x1.length : Int)), (33, .bool s296)], [.box [.bool false, .nl, .int .i64 0]])) s296 ?_ ?_
     ·refine kR ?_
      refine kC 4 [0,1,2,6,7,8,9,27] ?_
      refine RJ.caseB 27 (b := (decide (s179 < (x1.length : Int)))) (by kernel_rfl) (fun hb301 => ?_) (fun hb301 => ?_)
      ·have h302 := condT hb301 hy298
       refine kC 2 [0,1,2,6,7,8,9,27,28,29] ?_
       obtain ⟨hm, h304⟩ := asrt h302
       refine RJ.rel (d := (some 30)) (ef := ⟨.ep (((x1.flatMap (encI .u8)).drop ((s179 : Int).toNat * 1)).take 1), [], []⟩) (ef' := ⟨.ep ((encI .u8) (nth x1 s179)), [], []⟩) (c := inR s179 x1.length) (tr2 := []) (H2 := [.box [.bool false, .nl, .int .i64 0]]) (by kernel_rfl) hm (fun hc => N.idx (encI_len .u8) hc) (by kernel_rfl) ?_
       refine kC 3 [0,1,2,6,7,8,9,33] ?_
       refine kE ?_
       obtain rfl := oi h304
       exact kN [0, 1, 2, 6, 7, 8, 9, 33]
      ·have h303 := condF hb301 hy298
       refine kC 6 [0,1,2,6,7,8,9,33] ?_
       refine kE ?_
       obtain rfl := oi h303
       exact kN [0, 1, 2, 6, 7, 8, 9, 33]
     ·refine J.caseB 33 (b := s296) (by kernel_rfl) (fun hb305 => ?_) (fun hb305 => ?_)
      ·have h306 := condT hb305 h300
       refine kT ?_
       refine kK ?_
       obtain rfl := oi h306
       exact PJ.cutXl [0, 1, 2, 6, 7, 8, 9] (by kernel_rfl) (by kernel_rfl)
      ·have h307 := condF hb305 h300
       refine kF ?_
       refine K.exit 0 (by kernel_rfl) ?_
       obtain rfl := oi h307
       have h308 := joinX_inr h290
       refine PJ.cutXr (fun e => nomatch e) ?_
       obtain rfl := oi h308
       refine PJ.loopOut (fun e => nomatch e) (fun he310 => ?_)
       have h309 := congrArg some he310
       refine PJ.blockOut ?_
       obtain rfl := oi h309
       exact kN [0, 1, 2, 6, 7, 8, 9]
    ·subst hs
     have h291 := joinX_inl h290
     refine K.block 1 (by kernel_rfl) ?_
     refine kR ?_
     refine kC 3 [0,1,2,6,7,8,9] ?_
     refine kE ?_
     refine PJ.blockNormal ?_
     obtain rfl := oi h291
     exact PJ.loopNext [0, 1, 2, 6, 7, 8, 9] (by kernel_rfl) (by kernel_rfl)
   ·obtain ⟨s443, hy445, h447⟩ := bindS h178
    refine K.cutN (by kernel_rfl) (fun (s443 : Int) => ([(0, .bool x0), (1, lsv (encI .u8) 1 x1), (2, .int .i64 x2), (6, .ptr 0 0), (7, .int .i64 0), (8, .int .i64 s174), (9, .int .i64 s443)], [.box [.bool false, .nl, .int .i64 0]])) s443 ?_ ?_
    ·refine K.block 2 (by kernel_rfl) ?_
     refine K.loop (by kernel_rfl) (fun (s448 : Int) => ([(0, .bool x0), (1, lsv (encI .u8) 1 x1), (2, .int .i64 x2), (6, .ptr 0 0), (7, .int .i64 0), (8, .int .i64 s174), (9, .int .i64 s448)], [.box [.bool false, .nl, .int .i64 0]])) hy445 [0, 1, 2, 6, 7, 8, 9] (by kernel_rfl) (by kernel_rfl) (fun s448 x536 hs535 => ?_)
     obtain ⟨y557, hy558, h559⟩ := bindS hs535
     refine K.cutX (by kernel_rfl) (fun (s556 : Unit) => ([(0, .bool x0), (1, lsv (encI .u8) 1 x1), (2, .int .i64 x2), (6, .ptr 0 0), (7, .int .i64 0), (8, .int .i64 s174), (9, .int .i64 s448)], [.box [.bool false, .nl, .int .i64 0]])) y557 ?_ (fun s556 hs => ?_)
     ·obtain ⟨s565, hy567, h569⟩ := bindS hy558
      refine K.cutN (by kernel_rfl) (fun (s565 : Bool) => ([(0, .bool x0), (1, lsv (encI .u8) 1 x1), (2, .int .i64 x2), (6, .ptr 0 0), (7, .int .i64 0), (8, .int .i64 s174), (9, .int .i64 s448), (46, .bool s565)], [.box [.bool false, .nl, .int .i64 0]])) s565 ?_ ?_
      ·refine kR ?_
       refine kC 4 [0,1,2,6,7,8,9,39] ?_
       refine RJ.caseB 39 (b := (decide (s174 < s448))) (by kernel_rfl) (fun hb570 => ?_) (fun hb570 => ?_)
       ·have h571 := condT hb570 hy567
        refine kC 3 [0,1,2,6,7,8,9,39,40,42] ?_
        obtain ⟨hm, h573⟩ := asrt h571
        refine RJ.rel (d := (some 43)) (ef := ⟨.ep (((x1.flatMap (encI .u8)).drop (((IntKind.wrap .i64 (s448 - 1)) : Int).toNat * 1)).take 1), [], []⟩) (ef' := ⟨.ep ((encI .u8) (nth x1 (IntKind.wrap .i64 (s448 - 1)))), [], []⟩) (c := inR (IntKind.wrap .i64 (s448 - 1)) x1.length) (tr2 := []) (H2 := [.box [.bool false, .nl, .int .i64 0]]) (by kernel_rfl) hm (fun hc => N.idx (encI_len .u8) hc) (by kernel_rfl) ?_
        refine kC 3 [0,1,2,6,7,8,9,46] ?_
        refine kE ?_
        obtain rfl := oi h573
        exact kN [0, 1, 2, 6, 7, 8, 9, 46]
       ·have h572 := condF hb570 hy567
        refine kC 7 [0,1,2,6,7,8,9,46] ?_
        refine kE ?_
        obtain rfl := oi h572
        exact kN [0, 1, 2, 6, 7, 8, 9, 46]
      ·refine J.caseB 46 (b := s565) (by kernel_rfl) (fun hb574 => ?_) (fun hb574 => ?_)
       ·have h575 := condT hb574 h569
        refine kT ?_
        refine kK ?_
        obtain rfl := oi h575
        exact PJ.cutXl [0, 1, 2, 6, 7, 8, 9] (by kernel_rfl) (by kernel_rfl)
       ·have h576 := condF hb574 h569
        refine kF ?_
        refine K.exit 2 (by kernel_rfl) ?_
        obtain rfl := oi h576
        have h577 := joinX_inr h559
        refine PJ.cutXr (fun e => nomatch e) ?_
        obtain rfl := oi h577
        refine PJ.loopOut (fun e => nomatch e) (fun he579 => ?_)
        have h578 := congrArg some he579
        refine PJ.blockOut ?_
        obtain rfl := oi h578
        exact kN [0, 1, 2, 6, 7, 8, 9]
     ·subst hs
      have h560 := joinX_inl h559
      refine K.block 3 (by kernel_rfl) ?_
      refine kR ?_
      refine kC 3 [0,1,2,6,7,8,9] ?_
      refine kE ?_
      refine PJ.blockNormal ?_
      obtain rfl := oi h560
      exact PJ.loopNext [0, 1, 2, 6, 7, 8, 9] (by kernel_rfl) (by kernel_rfl)
    ·refine kS ?_
     refine kSR ?_
     refine kC 3 [0,1,2,6,7,8,9,51] ?_
     refine kEN ?_
     refine J.caseB 51 (b := (decide (s174 = s443))) (by kernel_rfl) (fun hb580 => ?_) (fun hb580 => ?_)
     ·have h581 := condT hb580 h447
      refine kT ?_
      refine kSR ?_
      refine kC 4 [0,1,2,6,7,8,9] ?_
      refine kEN ?_
      refine kX ?_
      refine PJ.passRet ?_
      obtain rfl := oi h581
      refine PJ.res (v1 := .tup [.agg [.bool x0, .nl, .int .i64 0], .int .i64 0]) (Le.tup (.cons (Le.agg (.cons (Le.refl _) (.cons (Le.nl _) (.cons (Le.refl _) .nil)))) (.cons (Le.refl _) .nil))) ?_
      exact kZ hFn hFH hFD
     ·have h582 := condF hb580 h447
      refine kF ?_
      refine kK ?_
      refine PJ.next ?_
      refine kSR ?_
      refine kC 4 [1,2,6,7,9,54,55,56,57] ?_
      obtain ⟨hm, h583⟩ := asrt h582
      refine RJ.rel (d := (some 58)) (ef := ⟨.lst ((s443 : Int).toNat - (s174 : Int).toNat) 1 (((x1.flatMap (encI .u8)).take ((s443 : Int).toNat * 1)).drop ((s174 : Int).toNat * 1)), [], []⟩) (ef' := ⟨.lst (cut x1 s174 s443).length 1 ((cut x1 s174 s443).flatMap (encI .u8)), [], []⟩) (c := inS s174 s443 x1.length) (tr2 := []) (H2 := [.box [.bool false, .nl, .int .i64 0]]) (by kernel_rfl) hm (fun hc => N.slice (encI_len .u8) hc) (by kernel_rfl) ?_
      obtain ⟨y584, hy585, h586⟩ := bindS h583
      refine RJ.call0 (d := (some 59)) (f := 33) (args := [lsv (encI .u8) 1 (cut x1 s174 s443)]) (v := lsv (encI .u8) 1 y584) (tr2 := []) (by kernel_rfl) (by kernel_rfl) (.cons (Le.refl _) .nil) (slices_Clone_ok hy585) (by kernel_rfl) ?_
      refine kC 9 [6,7,10] ?_
      refine kEN ?_
      refine kS ?_
      refine kSR ?_
      refine RJ.seg 1 [6, 7, 10, 67] (L2 := [(6, .ptr 0 0), (7, .int .i64 0), (10, .ptr 1 0), (67, .agg [.bool x0, lsv (encI .u8) 1 y584, .int .i64 ((IntKind.wrap .i64 (((IntKind.wrap .i64 (x2 + (x1.length : Int)))) - s443)))])]) (H2 := [.box [.bool false, .nl, .int .i64 0], .box [.bool x0, lsv (encI .u8) 1 y584, .int .i64 ((IntKind.wrap .i64 (((IntKind.wrap .i64 (x2 + (x1.length : Int)))) - s443)))]]) (by kernel_rfl) ?_
      obtain ⟨y587, hy588, h589⟩ := bindS h586
      refine RJ.call0 (d := (some 68)) (f := 24) (args := [.agg [.bool x0, lsv (encI .u8) 1 y584, .int .i64 ((IntKind.wrap .i64 (((IntKind.wrap .i64 (x2 + (x1.length : Int)))) - s443)))]]) (v := .bool y587) (tr2 := []) (by kernel_rfl) (by kernel_rfl) (.cons (Le.refl _) .nil) (dec_Right_ok hy588) (by kernel_rfl) ?_
      refine kC 1 [6,7,10,69] ?_
      refine kEN ?_
      refine J.caseB 69 (b := (!y587)) (by kernel_rfl) (fun hb590 => ?_) (fun hb590 => ?_)
      ·have h591 := condT hb590 h589
       refine kT ?_
       refine kSR ?_
       refine kC 3 [6,7,10] ?_
       refine kEN ?_
       refine kX ?_
       refine PJ.passRet ?_
       obtain rfl := oi h591
       refine PJ.res (v1 := .tup [.agg [.bool false, .nl, .int .i64 0], .int .i64 11]) (Le.tup (.cons (Le.agg (.cons (Le.refl _) (.cons (Le.nl _) (.cons (Le.refl _) .nil)))) (.cons (Le.refl _) .nil))) ?_
       exact kZ hFn hFH hFD
      ·have h592 := condF hb590 h589
       refine kF ?_
       refine kK ?_
       refine PJ.next ?_
       refine kSR ?_
       refine kC 3 [6,7] ?_
       refine kEN ?_
       refine kX ?_
       obtain rfl := oi h592
       exact kZ hFn hFH hFD

def dec_reader__eat_s0 (x0 : Int) (x1 : List UInt8) (x2 : Int) : Option (Bool × Int) :=
 (Option.bind (Option.bind (bif (decide (x2 = (x1.length : Int))) then (some true) else (bif inR x2 x1.length then (some ((decide (¬ ((((x1.getD (x2 : Int).toNat 0).toNat : Nat) : Int)) = x0)))) else none)) fun (s27 : Bool) => (bif s27 then (some (.inr (false, x2))) else (some (.inl ())))) (joinX fun (s18 : Unit) => (some (true, (IntKind.wrap .i64 (x2 + 1))))))
theorem dec_reader__eat_s0_ok {x0 : Int} {x1 : List UInt8} {x2 : Int} {r : Bool × Int} (h : dec_reader__eat_s0 x0 x1 x2 = some r) : SC Tryd.prog 38 [.ptr 0 0, .int .u8 x0] [.box [.str x1, .int .i64 x2]] (.bool r.1) [.box [.str x1, .int .i64 r.2]] := by
 refine kFn (fn := Tryd.f38) (fun F hFn hFH hFD => ?_)
 unfold dec_reader__eat_s0 at h
 refine kSR ?_
 refine kC 1 [0,1,4] ?_
 refine kEN ?_
 obtain ⟨y19, hy20, h21⟩ := bindS h
 refine K.cutX (by kernel_rfl) (fun (s18 : Unit) => ([(0, .ptr 0 0), (4, .bool false)], [.box [.str x1, .int .i64 x2]])) y19 ?_ (fun s18 hs => ?_)
 ·obtain ⟨s27, hy29, h31⟩ := bindS hy20
  refine K.cutN (by kernel_rfl) (fun (s27 : Bool) => ([(0, .ptr 0 0), (4, .bool false), (27, .bool s27)], [.box [.str x1, .int .i64 x2]])) s27 ?_ ?_
  ·refine J.keep [0, 1, 4] (L2 := [(0, .ptr 0 0), (1, .int .u8 x0), (4, .bool false)]) (by kernel_rfl) ?_
   refine K.draw (by kernel_rfl) (by kernel_rfl) (by kernel_rfl) (H2 := [.box [.str x1, .int .i64 x2]]) (by kernel_rfl) (n := 1) (by kernel_rfl) ?_
   refine kD 11 ?_
   refine RJ.caseB 15 (b := (decide (x2 = (x1.length : Int)))) (by kernel_rfl) (fun hb32 => ?_) (fun hb32 => ?_)
   ·have h33 := condT hb32 hy29
    refine kD 12 ?_
    refine kE ?_
    obtain rfl := oi h33
    exact kN [0, 4, 27]
   ·have h34 := condF hb32 hy29
    refine kD 8 ?_
    obtain ⟨hm, h35⟩ := asrt h34
    refine RJ.rel (d := (some 24)) (ef := ⟨.int .u8 (((x1.getD (x2 : Int).toNat 0).toNat : Nat) : Int), [], []⟩) (ef' := ⟨.int .u8 (((x1.getD (x2 : Int).toNat 0).toNat : Nat) : Int), [], []⟩) (c := inR x2 x1.length) (tr2 := [([], []), ([], []), ([], []), ([0, 1], []), ([], []), ([], []), ([], []), ([0, 1], []), ([], []), ([], []), ([], []), ([], []), ([], []), ([], []), ([0, 1], []), ([], []), ([], []), ([], []), ([0, 1], []), ([], [])]) (H2 := [.box [.str x1, .int .i64 x2]]) (by kernel_rfl) hm (fun hc => rfl) (by kernel_rfl) ?_
    refine RJ.segD 3 (tr2 := [([], []), ([], []), ([], []), ([0, 1], []), ([], []), ([], []), ([], []), ([0, 1], []), ([], []), ([], []), ([], []), ([], []), ([], []), ([], []), ([0, 1], []), ([], []), ([], []), ([], []), ([0, 1], []), ([], []), ([], []), ([], []), ([], [])]) (L2 := [(27, .bool ((decide (¬ ((((x1.getD (x2 : Int).toNat 0).toNat : Nat) : Int)) = x0)))), (26, .bool ((decide (¬ ((((x1.getD (x2 : Int).toNat 0).toNat : Nat) : Int)) = x0)))), (25, .int .u8 x0), (24, .int .u8 ((((x1.getD (x2 : Int).toNat 0).toNat : Nat) : Int))), (23, .int .i64 x2), (22, .ptr 0 1), (21, .ptr 0 0), (20, .ptr 0 0), (19, .str x1), (18, .ptr 0 0), (17, .ptr 0 0), (16, .ptr 0 0), (15, .bool false), (15, .bool ((decide (x2 = (x1.length : Int))))), (14, .bool ((decide (x2 = (x1.length : Int))))), (13, .int .i64 (x1.length : Int)), (12, .str x1), (11, .ptr 0 0), (10, .ptr 0 0), (9, .ptr 0 0), (8, .int .i64 x2), (7, .ptr 0 1), (6, .ptr 0 0), (5, .ptr 0 0), (0, .ptr 0 0), (1, .int .u8 x0), (4, .bool false)]) (H2 := [.box [.str x1, .int .i64 x2]]) (by kernel_rfl) ?_
    refine kE ?_
    obtain rfl := oi h35
    exact kN [0, 4, 27]
  ·refine J.caseB 27 (b := s27) (by kernel_rfl) (fun hb36 => ?_) (fun hb36 => ?_)
   ·have h37 := condT hb36 h31
    refine kT ?_
    refine kSR ?_
    refine kC 1 [0,4] ?_
    refine kEN ?_
    refine kX ?_
    obtain rfl := oi h37
    have h39 := joinX_inr h21
    refine PJ.cutXr (fun e => nomatch e) ?_
    obtain rfl := oi h39
    exact K.retV (H0 := [.box [.str x1, .int .i64 x2]]) [0] (.inr rfl) hFn hFH hFD (by kernel_rfl) (v1 := .bool false) (by kernel_rfl) (by kernel_rfl) (by kernel_rfl) (by decide) (by kernel_rfl) (by kernel_rfl) (by kernel_rfl) (by kernel_rfl) (by kernel_rfl)
   ·have h38 := condF hb36 h31
    refine kF ?_
    refine kK ?_
    obtain rfl := oi h38
    exact PJ.cutXl [0, 4] (by kernel_rfl) (by kernel_rfl)
 ·subst hs
  have h22 := joinX_inl h21
  refine kSR ?_
  refine kC 8 [4] ?_
  refine kEN ?_
  refine kSR ?_
  refine kC 1 [4] ?_
  refine kEN ?_
  refine kX ?_
  obtain rfl := oi h22
  exact K.retV (H0 := [.box [.str x1, .int .i64 x2]]) [0] (.inr rfl) hFn hFH hFD (by kernel_rfl) (v1 := .bool true) (by kernel_rfl) (by kernel_rfl) (by kernel_rfl) (by decide) (by kernel_rfl) (by kernel_rfl) (by kernel_rfl) (by kernel_rfl) (by kernel_rfl)

def dec_reader__next_s0 (x0 : List UInt8) (x1 : Int) : Option (Int × Bool) :=
 (Option.bind (Option.bind (bif (decide (x1 = (x0.length : Int))) then (some true) else (bif inR x1 x0.length then (bif (decide (((((x0.getD (x1 : Int).toNat 0).toNat : Nat) : Int)) < 48)) then (some true) else (bif inR x1 x0.length then (some ((decide (((((x0.getD (x1 : Int).toNat 0).toNat : Nat) : Int)) > 57)))) else none)) else none)) fun (s39 : Bool) => (bif s39 then (some (.inr (0, false))) else (some (.inl ())))) (joinX fun (s26 : Unit) => (bif inR x1 x0.length then (some ((IntKind.wrap .u8 (((((x0.getD (x1 : Int).toNat 0).toNat : Nat) : Int)) - 48)), true)) else none)))
theorem dec_reader__next_s0_ok {x0 : List UInt8} {x1 : Int} {r : Int × Bool} (h : dec_reader__next_s0 x0 x1 = some r) : SC Tryd.prog 42 [.ptr 0 0] [.box [.str x0, .int .i64 x1]] (.tup [.int .u8 r.1, .bool r.2]) [.box [.str x0, .int .i64 x1]] := by
 refine kFn (fn := Tryd.f42) (fun F hFn hFH hFD => ?_)
 unfold dec_reader__next_s0 at h
 refine kSR ?_
 refine kC 2 [0,2,3] ?_
 refine kEN ?_
 obtain ⟨y27, hy28, h29⟩ := bindS h
 refine K.cutX (by kernel_rfl) (fun (s26 : Unit) => ([(0, .ptr 0 0), (2, .int .u8 0), (3, .bool false)], [.box [.str x0, .int .i64 x1]])) y27 ?_ (fun s26 hs => ?_)
 ·obtain ⟨s39, hy41, h43⟩ := bindS hy28
  refine K.cutN (by kernel_rfl) (fun (s39 : Bool) => ([(0, .ptr 0 0), (2, .int .u8 0), (3, .bool false), (37, .bool s39)], [.box [.str x0, .int .i64 x1]])) s39 ?_ ?_
  ·refine J.keep [0, 2, 3] (L2 := [(0, .ptr 0 0), (2, .int .u8 0), (3, .bool false)]) (by kernel_rfl) ?_
   refine K.draw (by kernel_rfl) (by kernel_rfl) (by kernel_rfl) (H2 := [.box [.str x0, .int .i64 x1]]) (by kernel_rfl) (n := 1) (by kernel_rfl) ?_
   refine kD 11 ?_
   refine RJ.caseB 14 (b := (decide (x1 = (x0.length : Int)))) (by kernel_rfl) (fun hb44 => ?_) (fun hb44 => ?_)
   ·have h45 := condT hb44 hy41
    refine kD 23 ?_
    refine kE ?_
    obtain rfl := oi h45
    exact kN [0, 2, 3, 37]
   ·have h46 := condF hb44 hy41
    refine kD 8 ?_
    obtain ⟨hm, h47⟩ := asrt h46
    refine RJ.rel (d := (some 23)) (ef := ⟨.int .u8 (((x0.getD (x1 : Int).toNat 0).toNat : Nat) : Int), [], []⟩) (ef' := ⟨.int .u8 (((x0.getD (x1 : Int).toNat 0).toNat : Nat) : Int), [], []⟩) (c := inR x1 x0.length) (tr2 := [([], []), ([], []), ([], []), ([0, 1], []), ([], []), ([], []), ([], []), ([0, 1], []), ([], []), ([], []), ([], []), ([], []), ([], []), ([], []), ([0, 1], []), ([], []), ([], []), ([], []), ([0, 1], []), ([], [])]) (H2 := [.box [.str x0, .int .i64 x1]]) (by kernel_rfl) hm (fun hc => rfl) (by kernel_rfl) ?_
    refine RJ.segD 3 (tr2 := [([], []), ([], []), ([], []), ([0, 1], []), ([], []), ([], []), ([], []), ([0, 1], []), ([], []), ([], []), ([], []), ([], []), ([], []), ([], []), ([0, 1], []), ([], []), ([], []), ([], []), ([0, 1], []), ([], []), ([], []), ([], []), ([], [])]) (L2 := [(26, .bool ((decide (((((x0.getD (x1 : Int).toNat 0).toNat : Nat) : Int)) < 48)))), (25, .bool ((decide (((((x0.getD (x1 : Int).toNat 0).toNat : Nat) : Int)) < 48)))), (24, .bool ((decide (((((x0.getD (x1 : Int).toNat 0).toNat : Nat) : Int)) < 48)))), (23, .int .u8 ((((x0.getD (x1 : Int).toNat 0).toNat : Nat) : Int))), (22, .int .i64 x1), (21, .ptr 0 1), (20, .ptr 0 0), (19, .ptr 0 0), (18, .str x0), (17, .ptr 0 0), (16, .ptr 0 0), (15, .ptr 0 0), (14, .bool false), (14, .bool ((decide (x1 = (x0.length : Int))))), (13, .bool ((decide (x1 = (x0.length : Int))))), (12, .int .i64 (x0.length : Int)), (11, .str x0), (10, .ptr 0 0), (9, .ptr 0 0), (8, .ptr 0 0), (7, .int .i64 x1), (6, .ptr 0 1), (5, .ptr 0 0), (4, .ptr 0 0), (0, .ptr 0 0), (2, .int .u8 0), (3, .bool false)]) (H2 := [.box [.str x0, .int .i64 x1]]) (by kernel_rfl) ?_
    refine RJ.caseB 26 (b := (decide (((((x0.getD (x1 : Int).toNat 0).toNat : Nat) : Int)) < 48))) (by kernel_rfl) (fun hb48 => ?_) (fun hb48 => ?_)
    ·have h49 := condT hb48 h47
     refine kD 11 ?_
     refine kE ?_
     obtain rfl := oi h49
     exact kN [0, 2, 3, 37]
    ·have h50 := condF hb48 h47
     refine kD 8 ?_
     obtain ⟨hm, h51⟩ := asrt h50
     refine RJ.rel (d := (some 35)) (ef := ⟨.int .u8 (((x0.getD (x1 : Int).toNat 0).toNat : Nat) : Int), [], []⟩) (ef' := ⟨.int .u8 (((x0.getD (x1 : Int).toNat 0).toNat : Nat) : Int), [], []⟩) (c := inR x1 x0.length) (tr2 := [([], []), ([], []), ([], []), ([0, 1], []), ([], []), ([], []), ([], []), ([0, 1], []), ([], []), ([], []), ([], []), ([], []), ([], []), ([], []), ([0, 1], []), ([], []), ([], []), ([], []), ([0, 1], []), ([], []), ([], []), ([], []), ([], []), ([], []), ([], []), ([], []), ([0, 1], []), ([], []), ([], []), ([], []), ([0, 1], []), ([], [])]) (H2 := [.box [.str x0, .int .i64 x1]]) (by kernel_rfl) hm (fun hc => rfl) (by kernel_rfl) ?_
     refine kD 2 ?_
     refine kE ?_
     obtain rfl := oi h51
     exact kN [0, 2, 3, 37]
  ·refine J.caseB 37 (b := s39) (by kernel_rfl) (fun hb52 => ?_) (fun hb52 => ?_)
   ·have h53 := condT hb52 h43
    refine kT ?_
    refine kSR ?_
    refine kC 2 [0,2,3] ?_
    refine kEN ?_
    refine kX ?_
    obtain rfl := oi h53
    have h55 := joinX_inr h29
    refine PJ.cutXr (fun e => nomatch e) ?_
    obtain rfl := oi h55
    exact K.retV (H0 := [.box [.str x0, .int .i64 x1]]) [0] (.inr rfl) hFn hFH hFD (by kernel_rfl) (v1 := .tup [.int .u8 0, .bool false]) (by kernel_rfl) (by kernel_rfl) (by kernel_rfl) (by decide) (by kernel_rfl) (by kernel_rfl) (by kernel_rfl) (by kernel_rfl) (by kernel_rfl)
   ·have h54 := condF hb52 h43
    refine kF ?_
    refine kK ?_
    obtain rfl := oi h54
    exact PJ.cutXl [0, 2, 3] (by kernel_rfl) (by kernel_rfl)
 ·subst hs
  have h30 := joinX_inl h29
  refine kS ?_
  refine J.keep [0, 2, 3] (L2 := [(0, .ptr 0 0), (2, .int .u8 0), (3, .bool false)]) (by kernel_rfl) ?_
  refine K.draw (by kernel_rfl) (by kernel_rfl) (by kernel_rfl) (H2 := [.box [.str x0, .int .i64 x1]]) (by kernel_rfl) (n := 1) (by kernel_rfl) ?_
  refine kD 8 ?_
  obtain ⟨hm, h56⟩ := asrt h30
  refine RJ.rel (d := (some 46)) (ef := ⟨.int .u8 (((x0.getD (x1 : Int).toNat 0).toNat : Nat) : Int), [], []⟩) (ef' := ⟨.int .u8 (((x0.getD (x1 : Int).toNat 0).toNat : Nat) : Int), [], []⟩) (c := inR x1 x0.length) (tr2 := [([], []), ([], []), ([], []), ([0, 1], []), ([], []), ([], []), ([], []), ([0, 1], []), ([], [])]) (H2 := [.box [.str x0, .int .i64 x1]]) (by kernel_rfl) hm (fun hc => rfl) (by kernel_rfl) ?_
  refine kD 3 ?_
  refine kEN ?_
  refine kX ?_
  obtain rfl := oi h56
  exact K.retV (H0 := [.box [.str x0, .int .i64 x1]]) [0] (.inr rfl) hFn hFH hFD (by kernel_rfl) (v1 := .tup [.int .u8 ((IntKind.wrap .u8 (((((x0.getD (x1 : Int).toNat 0).toNat : Nat) : Int)) - 48))), .bool true]) (by kernel_rfl) (by kernel_rfl) (by kernel_rfl) (by decide) (by kernel_rfl) (by kernel_rfl) (by kernel_rfl) (by kernel_rfl) (by kernel_rfl)

def dec_reader__figures_s0 (x0 : List UInt8) (x1 : Int) : Option ((List Int) × Bool × Int) :=
 (Option.bind (dec_reader__eat_s0 48 x0 x1) fun y1 => (bif y1.1 then (some (([] : List Int), true, y1.2)) else (Option.bind (loopN (fun (s195 : Int × (List Int)) => (bif (decide ((s195.2.length : Int) < 1000)) then (Option.bind (dec_reader__next_s0 x0 s195.1) fun y321 => (Option.bind (Option.bind (bif (!y321.2) then (some true) else (bif (decide (y321.1 = 0)) then (some ((decide ((s195.2.length : Int) = 999)))) else (some false))) fun (s358 : Bool) => (bif s358 then (some (.inr (.inr (s195.1, s195.2)))) else (some (.inl ())))) (joinX fun (s347 : Unit) => (bif room (s195.2.length + ([y321.1] : List Int).length) then (some (.inl ((IntKind.wrap .i64 (s195.1 + 1)), (s195.2 ++ ([y321.1] : List Int))))) else none)))) else (some (.inr (s195.1, s195.2))))) big (y1.2, ([] : List Int))) fun (s190 : Int × (List Int)) => (Option.bind (bif (decide ((s190.2.length : Int) > 0)) then (bif inR ((IntKind.wrap .i64 ((s190.2.length : Int) - 1))) s190.2.length then (bif inR ((IntKind.wrap .i64 ((s190.2.length : Int) - 1))) s190.2.length then (some ((decide (¬ ((nth s190.2 ((IntKind.wrap .i64 ((s190.2.length : Int) - 1))))) = 0)))) else none) else none) else (some false)) fun (s383 : Bool) => (some (s190.2, s383, s190.1))))))
theorem dec_reader__figures_s0_ok {x0 : List UInt8} {x1 : Int} {r : (List Int) × Bool × Int} (h : dec_reader__figures_s0 x0 x1 = some r) : SC Tryd.prog 39 [.ptr 0 0] [.box [.str x0, .int .i64 x1]] (.tup [lsv (encI .u8) 1 r.1, .bool r.2.1]) [.box [.str x0, .int .i64 r.2.2]] := by
 refine kFn (fn := Tryd.f39) (fun F hFn hFH hFD => ?_)
 unfold dec_reader__figures_s0 at h
 refine kSR ?_
 refine kC 2 [0,2,3] ?_
 refine kEN ?_
 refine kS ?_
 refine kSR ?_
 refine kC 1 [0,2,3,7] ?_
 obtain ⟨y1, hy2, h3⟩ := bindS h
 refine RJ.callG (d := (some 8)) (f := 38) (args := [.ptr 0 0, .int .u8 48]) (args0 := [.ptr 0 0, .int .u8 48]) (v0 := .bool y1.1) (v := .bool y1.1) (tr2 := []) (H0 := [.box [.str x0, .int .i64 x1]]) (H0' := [.box [.str x0, .int .i64 y1.2]]) (H2 := [.box [.str x0, .int .i64 y1.2]]) [0] (by kernel_rfl) (by kernel_rfl) (by kernel_rfl) (by kernel_rfl) (by decide) (by kernel_rfl) (by kernel_rfl) (by kernel_rfl) (.cons (Le.refl _) (.cons (Le.refl _) .nil)) (dec_reader__eat_s0_ok hy2) (by kernel_rfl) (by kernel_rfl) (by kernel_rfl) ?_
 refine kEN ?_
 refine J.caseB 8 (b := y1.1) (by kernel_rfl) (fun hb4 => ?_) (fun hb4 => ?_)
 ·have h5 := condT hb4 h3
  refine kT ?_
  refine kSR ?_
  refine kC 2 [0,2,3] ?_
  refine kEN ?_
  refine kX ?_
  refine PJ.passRet ?_
  obtain rfl := oi h5
  refine PJ.res (v1 := .tup [.nl, .bool true]) (Le.tup (.cons (Le.nl _) (.cons (Le.refl _) .nil))) ?_
  exact K.retV (H0 := [.box [.str x0, .int .i64 x1]]) [0] (.inr rfl) hFn hFH hFD (by kernel_rfl) (v1 := .tup [.nl, .bool true]) (by kernel_rfl) (by kernel_rfl) (by kernel_rfl) (by decide) (by kernel_rfl) (by kernel_rfl) (by kernel_rfl) (by kernel_rfl) (by kernel_rfl)
 ·have h6 := condF hb4 h3
  refine kF ?_
  refine kK ?_
  refine PJ.next ?_
  refine kSR ?_
  refine kC 1 [0,2,3,4] ?_
  refine kEN ?_
  obtain ⟨s190, hy192, h194⟩ := bindS h6
  refine K.cutN (by kernel_rfl) (fun (s190 : Int × (List Int)) => ([(2, .nl), (3, .bool false), (4, .vc 1)], [.box [.str x0, .int .i64 s190.1], vecL (encI .u8) 1 5 s190.2])) s190 ?_ ?_
  ·refine K.block 0 (by kernel_rfl) ?_
   refine J.wk (Wk.viv 4 1 5 (by kernel_rfl)) ?_
   refine K.loop (by kernel_rfl) (fun (s195 : Int × (List Int)) => ([(0, .ptr 0 0), (2, .nl), (3, .bool false), (4, .vc 1)], [.box [.str x0, .int .i64 s195.1], vecL (encI .u8) 1 5 s195.2])) hy192 [0, 2, 3, 4] (by kernel_rfl) (by kernel_rfl) (fun s195 x317 hs316 => ?_)
   refine kS ?_
   refine kSR ?_
   refine kC 3 [0,2,3,4,11] ?_
   refine kEN ?_
   refine J.caseB 11 (b := (decide ((s195.2.length : Int) < 1000))) (by kernel_rfl) (fun hb318 => ?_) (fun hb318 => ?_)
   ·have h319 := condT hb318 hs316
    refine kT ?_
    refine kK ?_
    refine PJ.next ?_
    refine K.block 1 (by kernel_rfl) ?_
    refine kSR ?_
    refine kC 1 [0,2,3,4,13] ?_
    obtain ⟨y321, hy322, h323⟩ := bindS h319
    refine RJ.callG (d := (some 14)) (f := 42) (args := [.ptr 0 0]) (args0 := [.ptr 0 0]) (v0 := .tup [.int .u8 y321.1, .bool y321.2]) (v := .tup [.int .u8 y321.1, .bool y321.2]) (tr2 := []) (H0 := [.box [.str x0, .int .i64 s195.1]]) (H0' := [.box [.str x0, .int .i64 s195.1]]) (H2 := [.box [.str x0, .int .i64 s195.1], vecL (encI .u8) 1 5 s195.2]) [0] (by kernel_rfl) (by kernel_rfl) (by kernel_rfl) (by kernel_rfl) (by decide) (by kernel_rfl) (by kernel_rfl) (by kernel_rfl) (.cons (Le.refl _) .nil) (dec_reader__next_s0_ok hy322) (by kernel_rfl) (by kernel_rfl) (by kernel_rfl) ?_
    refine kC 5 [0,2,3,4,5,6] ?_
    refine kEN ?_
    obtain ⟨y348, hy349, h350⟩ := bindS h323
    refine K.cutX (by kernel_rfl) (fun (s347 : Unit) => ([(0, .ptr 0 0), (2, .nl), (3, .bool false), (4, .vc 1), (5, .int .u8 y321.1)], [.box [.str x0, .int .i64 s195.1], vecL (encI .u8) 1 5 s195.2])) y348 ?_ (fun s347 hs => ?_)
    ·obtain ⟨s358, hy360, h362⟩ := bindS hy349
     refine K.cutN (by kernel_rfl) (fun (s358 : Bool) => ([(0, .ptr 0 0), (2, .nl), (3, .bool false), (4, .vc 1), (5, .int .u8 y321.1), (27, .bool s358)], [.box [.str x0, .int .i64 s195.1], vecL (encI .u8) 1 5 s195.2])) s358 ?_ ?_
     ·refine kR ?_
      refine RJ.seg 3 [0, 2, 3, 4, 5, 19] (L2 := [(0, .ptr 0 0), (2, .nl), (3, .bool false), (4, .vc 1), (5, .int .u8 y321.1), (19, .bool (!y321.2))]) (H2 := [.box [.str x0, .int .i64 s195.1], vecL (encI .u8) 1 5 s195.2]) (by kernel_rfl) ?_
      refine RJ.caseB 19 (b := (!y321.2)) (by kernel_rfl) (fun hb363 => ?_) (fun hb363 => ?_)
      ·have h364 := condT hb363 hy360
       refine kC 8 [0,2,3,4,5,27] ?_
       refine kE ?_
       obtain rfl := oi h364
       exact kN [0, 2, 3, 4, 5, 27]
      ·have h365 := condF hb363 hy360
       refine kC 3 [0,2,3,4,5,19,22] ?_
       refine RJ.caseB 22 (b := (decide (y321.1 = 0))) (by kernel_rfl) (fun hb366 => ?_) (fun hb366 => ?_)
       ·have h367 := condT hb366 h365
        refine kC 5 [0,2,3,4,5,27] ?_
        refine kE ?_
        obtain rfl := oi h367
        exact kN [0, 2, 3, 4, 5, 27]
       ·have h368 := condF hb366 h365
        refine kC 5 [0,2,3,4,5,27] ?_
        refine kE ?_
        obtain rfl := oi h368
        exact kN [0, 2, 3, 4, 5, 27]
     ·refine J.caseB 27 (b := s358) (by kernel_rfl) (fun hb369 => ?_) (fun hb369 => ?_)
      ·have h370 := condT hb369 h362
       refine kT ?_
       refine K.exit 0 (by kernel_rfl) ?_
       obtain rfl := oi h370
       have h372 := joinX_inr h350
       refine PJ.cutXr (fun e => nomatch e) ?_
       refine PJ.blockPass (by kernel_rfl) ?_
       obtain rfl := oi h372
       refine PJ.loopOut (fun e => nomatch e) (fun he374 => ?_)
       have h373 := congrArg some he374
       refine PJ.blockOut ?_
       obtain rfl := oi h373
       exact kN [2, 3, 4]
      ·have h371 := condF hb369 h362
       refine kF ?_
       refine kK ?_
       obtain rfl := oi h371
       exact PJ.cutXl [0, 2, 3, 4, 5] (by kernel_rfl) (by kernel_rfl)
    ·subst hs
     have h351 := joinX_inl h350
     refine kSR ?_
     refine kC 3 [0,2,3,4,28,30] ?_
     obtain ⟨hm, h375⟩ := asrt h351
     refine RJ.rel (d := (some 31)) (ef := ⟨.vc 3, [1, 2], [(1, .gone), (3, .vec (s195.2.length + ([y321.1] : List Int).length) 1 5 (s195.2.flatMap (encI .u8) ++ ([y321.1] : List Int).flatMap (encI .u8)))]⟩) (ef' := ⟨.vc 3, [1, 2], [(1, .gone), (3, vecL (encI .u8) 1 5 (s195.2 ++ ([y321.1] : List Int)))]⟩) (c := roomB (s195.2.length + ([y321.1] : List Int).length)) (tr2 := []) (H2 := [.box [.str x0, .int .i64 s195.1], .gone, vecL (encI .u8) 1 5 ([y321.1] : List Int), vecL (encI .u8) 1 5 (s195.2 ++ ([y321.1] : List Int))]) (by kernel_rfl) (roomB_of_room hm) (fun hc => N.app) (by kernel_rfl) ?_
     refine kC 1 [0,2,3,4] ?_
     refine kEN ?_
     refine kR ?_
     refine kC 8 [0,2,3,4] ?_
     refine kE ?_
     refine PJ.blockNormal ?_
     obtain rfl := oi h375
     refine PJ.wk (Wk.sel (L2 := [(0, .ptr 0 0), (2, .nl), (3, .bool false), (4, .vc 1)]) (H2 := [.box [.str x0, .int .i64 (IntKind.wrap .i64 (s195.1 + 1))], vecL (encI .u8) 1 5 (s195.2 ++ ([y321.1] : List Int))]) 1 (by rw [hFH]; rfl) hFD [0, 3] (by kernel_rfl) (by kernel_rfl) (by decide) (by kernel_rfl) (by kernel_rfl) (by kernel_rfl) (by kernel_rfl)) ?_
     exact PJ.loopNext [0, 2, 3, 4] (by kernel_rfl) (by kernel_rfl)
   ·have h320 := condF hb318 hs316
    refine kF ?_
    refine K.exit 0 (by kernel_rfl) ?_
    refine PJ.passExit ?_
    obtain rfl := oi h320
    refine PJ.loopOut (fun e => nomatch e) (fun he377 => ?_)
    have h376 := congrArg some he377
    refine PJ.blockOut ?_
    obtain rfl := oi h376
    exact kN [2, 3, 4]
  ·obtain ⟨s383, hy385, h387⟩ := bindS h194
   refine K.cutN (by kernel_rfl) (fun (s383 : Bool) => ([(2, .vc 1), (3, .bool s383)], [.box [.str x0, .int .i64 s190.1], vecL (encI .u8) 1 5 s190.2])) s383 ?_ ?_
   ·refine J.keep [2, 3, 4] (L2 := [(2, .nl), (3, .bool false), (4, .vc 1)]) (by kernel_rfl) ?_
    refine K.draw (by kernel_rfl) (by kernel_rfl) (by kernel_rfl) (H2 := [.box [.str x0, .int .i64 s190.1], vecL (encI .u8) 1 5 s190.2]) (by kernel_rfl) (n := 2) (by kernel_rfl) ?_
    refine kD 5 ?_
    refine RJ.caseB 43 (b := (decide ((s190.2.length : Int) > 0))) (by kernel_rfl) (fun hb388 => ?_) (fun hb388 => ?_)
    ·have h389 := condT hb388 hy385
     refine kD 4 ?_
     obtain ⟨hm, h391⟩ := asrt h389
     refine RJ.rel (d := (some 48)) (ef := ⟨.ptr 1 (((IntKind.wrap .i64 ((s190.2.length : Int) - 1)) : Int).toNat * 1), [1], []⟩) (ef' := ⟨.ptr 1 (((IntKind.wrap .i64 ((s190.2.length : Int) - 1)) : Int).toNat * 1), [1], []⟩) (c := inR ((IntKind.wrap .i64 ((s190.2.length : Int) - 1))) s190.2.length) (tr2 := [([], []), ([], []), ([3], []), ([], []), ([], []), ([], []), ([], []), ([3], []), ([], []), ([3], [])]) (H2 := [.box [.str x0, .int .i64 s190.1], vecL (encI .u8) 1 5 s190.2]) (by kernel_rfl) hm (fun hc => rfl) (by kernel_rfl) ?_
     obtain ⟨hm, h392⟩ := asrt h391
     refine RJ.rel (d := (some 49)) (ef := ⟨(((s190.2).flatMap (encI .u8)).drop (((IntKind.wrap .i64 ((s190.2.length : Int) - 1)) : Int).toNat * 1)).headD .undef, [1], []⟩) (ef' := ⟨.int .u8 ((nth s190.2 ((IntKind.wrap .i64 ((s190.2.length : Int) - 1))))), [1], []⟩) (c := Nat.blt (((IntKind.wrap .i64 ((s190.2.length : Int) - 1)) : Int).toNat * 1) (s190.2.flatMap (encI .u8)).length) (tr2 := [([], []), ([], []), ([3], []), ([], []), ([], []), ([], []), ([], []), ([3], []), ([], []), ([3], []), ([2, 3], [])]) (H2 := [.box [.str x0, .int .i64 s190.1], vecL (encI .u8) 1 5 s190.2]) (by kernel_rfl) (loadv_ok (encI_len .u8) rfl hm) (fun hc => N.load1 (encI_len .u8) (fun _ => rfl) hm) (by kernel_rfl) ?_
     refine kD 4 ?_
     refine kE ?_
     obtain rfl := oi h392
     exact kN [2, 3]
    ·have h390 := condF hb388 hy385
     refine kD 10 ?_
     refine kE ?_
     obtain rfl := oi h390
     exact kN [2, 3]
   ·refine kX ?_
    obtain rfl := oi h387
    refine PJ.wk (Wk.freeze 1 (n := s190.2.length) (k := 1) (e := 5) (cs := s190.2.flatMap (encI .u8)) (by kernel_rfl)) ?_
    exact K.retV (H0 := [.box [.str x0, .int .i64 x1]]) [0] (.inr rfl) hFn hFH hFD (by kernel_rfl) (v1 := .tup [lsv (encI .u8) 1 s190.2, .bool s383]) (by kernel_rfl) (by kernel_rfl) (by kernel_rfl) (by decide) (by kernel_rfl) (by kernel_rfl) (by kernel_rfl) (by kernel_rfl) (by kernel_rfl)

def dec_reader__power_s0 (x0 : Bool) (x1 : List UInt8) (x2 : Int) : Option (Int × Bool × Int) :=
 (Option.bind (dec_reader__eat_s0 48 x1 x2) fun y1 => (bif y1.1 then (some (0, true, y1.2)) else (bif x0 then (some (0, false, y1.2)) else (Option.bind (Option.bind (dec_reader__eat_s0 45 x1 y1.2) fun y21 => (bif y21.1 then (some ((-1), y21.2)) else (some (1, y21.2)))) fun (s16 : Int × Int) => (loopN (fun (s27 : Int × Int) => (Option.bind (dec_reader__next_s0 x1 s27.2) fun y162 => (Option.bind (Option.bind (bif (!y162.2) then (some true) else (bif (decide (s27.1 = 0)) then (bif (decide (y162.1 = 0)) then (some true) else (some ((decide (((IntKind.wrap .i64 ((IntKind.wrap .i64 (s27.1 * 10)) + (IntKind.wrap .i64 y162.1)))) > 1000))))) else (some ((decide (((IntKind.wrap .i64 ((IntKind.wrap .i64 (s27.1 * 10)) + (IntKind.wrap .i64 y162.1)))) > 1000)))))) fun (s208 : Bool) => (bif s208 then (some (.inr (.inr ((IntKind.wrap .i64 (s16.1 * s27.1)), (decide (s27.1 > 0)), s27.2)))) else (some (.inl ())))) (joinX fun (s194 : Unit) => (some (.inl ((IntKind.wrap .i64 ((IntKind.wrap .i64 (s27.1 * 10)) + (IntKind.wrap .i64 y162.1))), (IntKind.wrap .i64 (s27.2 + 1))))))))) big (0, s16.2))))))
theorem dec_reader__power_s0_ok {x0 : Bool} {x1 : List UInt8} {x2 : Int} {r : Int × Bool × Int} (h : dec_reader__power_s0 x0 x1 x2 = some r) : SC Tryd.prog 40 [.ptr 0 0, .bool x0] [.box [.str x1, .int .i64 x2]] (.tup [.int .i64 r.1, .bool r.2.1]) [.box [.str x1, .int .i64 r.2.2]] := by
 refine kFn (fn := Tryd.f40) (fun F hFn hFH hFD => ?_)
 unfold dec_reader__power_s0 at h
 refine kSR ?_
 refine kC 2 [0,1,4,5] ?_
 refine kEN ?_
 refine kS ?_
 refine kSR ?_
 refine kC 1 [0,1,4,5,10] ?_
 obtain ⟨y1, hy2, h3⟩ := bindS h
 refine RJ.callG (d := (some 11)) (f := 38) (args := [.ptr 0 0, .int .u8 48]) (args0 := [.ptr 0 0, .int .u8 48]) (v0 := .bool y1.1) (v := .bool y1.1) (tr2 := []) (H0 := [.box [.str x1, .int .i64 x2]]) (H0' := [.box [.str x1, .int .i64 y1.2]]) (H2 := [.box [.str x1, .int .i64 y1.2]]) [0] (by kernel_rfl) (by kernel_rfl) (by kernel_rfl) (by kernel_rfl) (by decide) (by kernel_rfl) (by kernel_rfl) (by kernel_rfl) (.cons (Le.refl _) (.cons (Le.refl _) .nil)) (dec_reader__eat_s0_ok hy2) (by kernel_rfl) (by kernel_rfl) (by kernel_rfl) ?_
 refine kEN ?_
 refine J.caseB 11 (b := y1.1) (by kernel_rfl) (fun hb4 => ?_) (fun hb4 => ?_)
 ·have h5 := condT hb4 h3
  refine kT ?_
  refine kSR ?_
  refine kC 2 [0,1,4,5] ?_
  refine kEN ?_
  refine kX ?_
  refine PJ.passRet ?_
  obtain rfl := oi h5
  exact K.retV (H0 := [.box [.str x1, .int .i64 x2]]) [0] (.inr rfl) hFn hFH hFD (by kernel_rfl) (v1 := .tup [.int .i64 0, .bool true]) (by kernel_rfl) (by kernel_rfl) (by kernel_rfl) (by decide) (by kernel_rfl) (by kernel_rfl) (by kernel_rfl) (by kernel_rfl) (by kernel_rfl)
 ·have h6 := condF hb4 h3
  refine kF ?_
  refine kK ?_
  refine PJ.next ?_
  refine kS ?_
  refine kSR ?_
  refine kC 1 [0,4,5,12] ?_
  refine kEN ?_
  refine J.caseB 12 (b := x0) (by kernel_rfl) (fun hb7 => ?_) (fun hb7 => ?_)
  ·have h8 := condT hb7 h6
   refine kT ?_
   refine kSR ?_
   refine RJ.seg 2 [0, 4, 5] (L2 := [(0, .ptr 0 0), (4, .int .i64 0), (5, .bool false)]) (H2 := [.box [.str x1, .int .i64 y1.2]]) (by kernel_rfl) ?_
   refine kEN ?_
   refine kX ?_
   refine PJ.passRet ?_
   obtain rfl := oi h8
   exact K.retV (H0 := [.box [.str x1, .int .i64 x2]]) [0] (.inr rfl) hFn hFH hFD (by kernel_rfl) (v1 := .tup [.int .i64 0, .bool false]) (by kernel_rfl) (by kernel_rfl) (by kernel_rfl) (by decide) (by kernel_rfl) (by kernel_rfl) (by kernel_rfl) (by kernel_rfl) (by kernel_rfl)
  ·have h9 := condF hb7 h6
   refine kF ?_
   refine kK ?_
   refine PJ.next ?_
   refine kSR ?_
   refine RJ.seg 1 [0, 4, 5, 6] (L2 := [(0, .ptr 0 0), (4, .int .i64 0), (5, .bool false), (6, .int .i64 1)]) (H2 := [.box [.str x1, .int .i64 y1.2]]) (by kernel_rfl) ?_
   refine kEN ?_
   obtain ⟨s16, hy18, h20⟩ := bindS h9
   refine K.cutN (by kernel_rfl) (fun (s16 : Int × Int) => ([(0, .ptr 0 0), (4, .int .i64 0), (5, .bool false), (6, .int .i64 s16.1)], [.box [.str x1, .int .i64 s16.2]])) s16 ?_ ?_
   ·refine kSR ?_
    refine kC 1 [0,4,5,6,13] ?_
    obtain ⟨y21, hy22, h23⟩ := bindS hy18
    refine RJ.callG (d := (some 14)) (f := 38) (args := [.ptr 0 0, .int .u8 45]) (args0 := [.ptr 0 0, .int .u8 45]) (v0 := .bool y21.1) (v := .bool y21.1) (tr2 := []) (H0 := [.box [.str x1, .int .i64 y1.2]]) (H0' := [.box [.str x1, .int .i64 y21.2]]) (H2 := [.box [.str x1, .int .i64 y21.2]]) [0] (by kernel_rfl) (by kernel_rfl) (by kernel_rfl) (by kernel_rfl) (by decide) (by kernel_rfl) (by kernel_rfl) (by kernel_rfl) (.cons (Le.refl _) (.cons (Le.refl _) .nil)) (dec_reader__eat_s0_ok hy22) (by kernel_rfl) (by kernel_rfl) (by kernel_rfl) ?_
    refine kEN ?_
    refine J.caseB 14 (b := y21.1) (by kernel_rfl) (fun hb24 => ?_) (fun hb24 => ?_)
    ·have h25 := condT hb24 h23
     refine kT ?_
     refine kR ?_
     refine kC 1 [0,4,5,6] ?_
     refine kE ?_
     obtain rfl := oi h25
     exact kN [0, 4, 5, 6]
    ·have h26 := condF hb24 h23
     refine kF ?_
     refine kK ?_
     obtain rfl := oi h26
     exact kN [0, 4, 5, 6]
   ·refine kSR ?_
    refine kC 1 [0,4,5,6,7] ?_
    refine kEN ?_
    refine K.block 0 (by kernel_rfl) ?_
    refine K.loop (by kernel_rfl) (fun (s27 : Int × Int) => ([(0, .ptr 0 0), (4, .int .i64 0), (5, .bool false), (6, .int .i64 s16.1), (7, .int .i64 s27.1)], [.box [.str x1, .int .i64 s27.2]])) h20 [0, 4, 5, 6, 7] (by kernel_rfl) (by kernel_rfl) (fun s27 x161 hs160 => ?_)
    refine K.block 1 (by kernel_rfl) ?_
    refine kSR ?_
    refine kC 1 [0,4,5,6,7,16] ?_
    obtain ⟨y162, hy163, h164⟩ := bindS hs160
    refine RJ.callG (d := (some 17)) (f := 42) (args := [.ptr 0 0]) (args0 := [.ptr 0 0]) (v0 := .tup [.int .u8 y162.1, .bool y162.2]) (v := .tup [.int .u8 y162.1, .bool y162.2]) (tr2 := []) (H0 := [.box [.str x1, .int .i64 s27.2]]) (H0' := [.box [.str x1, .int .i64 s27.2]]) (H2 := [.box [.str x1, .int .i64 s27.2]]) [0] (by kernel_rfl) (by kernel_rfl) (by kernel_rfl) (by kernel_rfl) (by decide) (by kernel_rfl) (by kernel_rfl) (by kernel_rfl) (.cons (Le.refl _) .nil) (dec_reader__next_s0_ok hy163) (by kernel_rfl) (by kernel_rfl) (by kernel_rfl) ?_
    refine kC 5 [0,4,5,6,7,8,9] ?_
    refine kEN ?_
    obtain ⟨y195, hy196, h197⟩ := bindS h164
    refine K.cutX (by kernel_rfl) (fun (s194 : Unit) => ([(0, .ptr 0 0), (4, .int .i64 0), (5, .bool false), (6, .int .i64 s16.1), (7, .int .i64 s27.1), (8, .int .u8 y162.1)], [.box [.str x1, .int .i64 s27.2]])) y195 ?_ (fun s194 hs => ?_)
    ·obtain ⟨s208, hy210, h212⟩ := bindS hy196
     refine K.cutN (by kernel_rfl) (fun (s208 : Bool) => ([(0, .ptr 0 0), (4, .int .i64 0), (5, .bool false), (6, .int .i64 s16.1), (7, .int .i64 s27.1), (8, .int .u8 y162.1), (37, .bool s208)], [.box [.str x1, .int .i64 s27.2]])) s208 ?_ ?_
     ·refine kR ?_
      refine kC 3 [0,4,5,6,7,8,22] ?_
      refine RJ.caseB 22 (b := (!y162.2)) (by kernel_rfl) (fun hb213 => ?_) (fun hb213 => ?_)
      ·have h214 := condT hb213 hy210
       refine RJ.seg 15 [0, 4, 5, 6, 7, 8, 37] (L2 := [(0, .ptr 0 0), (4, .int .i64 0), (5, .bool false), (6, .int .i64 s16.1), (7, .int .i64 s27.1), (8, .int .u8 y162.1), (37, .bool true)]) (H2 := [.box [.str x1, .int .i64 s27.2]]) (by kernel_rfl) ?_
       refine kE ?_
       obtain rfl := oi h214
       exact kN [0, 4, 5, 6, 7, 8, 37]
      ·have h215 := condF hb213 hy210
       refine RJ.seg 3 [0, 4, 5, 6, 7, 8, 22, 25] (L2 := [(0, .ptr 0 0), (4, .int .i64 0), (5, .bool false), (6, .int .i64 s16.1), (7, .int .i64 s27.1), (8, .int .u8 y162.1), (22, .bool false), (25, .bool (decide (s27.1 = 0)))]) (H2 := [.box [.str x1, .int .i64 s27.2]]) (by kernel_rfl) ?_
       refine RJ.caseB 25 (b := (decide (s27.1 = 0))) (by kernel_rfl) (fun hb216 => ?_) (fun hb216 => ?_)
       ·have h217 := condT hb216 h215
        refine kC 5 [0,4,5,6,7,8,30] ?_
        refine RJ.caseB 30 (b := (decide (y162.1 = 0))) (by kernel_rfl) (fun hb219 => ?_) (fun hb219 => ?_)
        ·have h220 := condT hb219 h217
         refine kC 7 [0,4,5,6,7,8,37] ?_
         refine kE ?_
         obtain rfl := oi h220
         exact kN [0, 4, 5, 6, 7, 8, 37]
        ·have h221 := condF hb219 h217
         refine kC 7 [0,4,5,6,7,8,37] ?_
         refine kE ?_
         obtain rfl := oi h221
         exact kN [0, 4, 5, 6, 7, 8, 37]
       ·have h218 := condF hb216 h215
        refine kC 12 [0,4,5,6,7,8,37] ?_
        refine kE ?_
        obtain rfl := oi h218
        exact kN [0, 4, 5, 6, 7, 8, 37]
     ·refine J.caseB 37 (b := s208) (by kernel_rfl) (fun hb222 => ?_) (fun hb222 => ?_)
      ·have h223 := condT hb222 h212
       refine kT ?_
       refine kSR ?_
       refine kC 7 [0,4,5,6,7,8] ?_
       refine kEN ?_
       refine kX ?_
       obtain rfl := oi h223
       have h225 := joinX_inr h197
       refine PJ.cutXr (fun e => nomatch e) ?_
       refine PJ.blockRet ?_
       obtain rfl := oi h225
       refine PJ.loopOut (fun e => nomatch e) (fun he227 => ?_)
       have h226 := congrArg some he227
       refine PJ.blockRet ?_
       obtain rfl := oi h226
       exact K.retV (H0 := [.box [.str x1, .int .i64 x2]]) [0] (.inr rfl) hFn hFH hFD (by kernel_rfl) (v1 := .tup [.int .i64 (IntKind.wrap .i64 (s16.1 * s27.1)), .bool (decide (s27.1 > 0))]) (by kernel_rfl) (by kernel_rfl) (by kernel_rfl) (by decide) (by kernel_rfl) (by kernel_rfl) (by kernel_rfl) (by kernel_rfl) (by kernel_rfl)
      ·have h224 := condF hb222 h212
       refine kF ?_
       refine kK ?_
       obtain rfl := oi h224
       exact PJ.cutXl [0, 4, 5, 6, 7, 8] (by kernel_rfl) (by kernel_rfl)
    ·subst hs
     have h198 := joinX_inl h197
     refine kSR ?_
     refine kC 6 [0,4,5,6,7] ?_
     refine kEN ?_
     refine kR ?_
     refine kC 8 [0,4,5,6,7] ?_
     refine kE ?_
     refine PJ.blockNormal ?_
     obtain rfl := oi h198
     exact PJ.loopNext [0, 4, 5, 6, 7] (by kernel_rfl) (by kernel_rfl)

def dec_reader__number_s0 (x0 : List UInt8) (x1 : Int) : Option (St23 × Bool × Int) :=
 (Option.bind (dec_reader__eat_s0 45 x0 x1) fun y1 => (Option.bind (dec_reader__figures_s0 x0 y1.2) fun y4 => (Option.bind (Option.bind (bif (!y4.2.1) then (some (true, y4.2.2)) else (Option.bind (dec_reader__eat_s0 101 x0 y4.2.2) fun y47 => (some ((!y47.1), y47.2)))) fun (s39 : Bool × Int) => (bif s39.1 then (some (.inr ((⟨false, ([] : List Int), 0⟩ : St23), false, s39.2))) else (some (.inl s39.2)))) (joinX fun (s28 : Int) => (Option.bind (dec_reader__power_s0 ((decide ((y4.1.length : Int) = 0))) x0 s28) fun y54 => (Option.bind (Option.bind (bif (!y54.2.1) then (some true) else (some ((decide (y54.2.2 < (x0.length : Int)))))) fun (s80 : Bool) => (bif s80 then (some (.inr ((⟨false, ([] : List Int), 0⟩ : St23), false, y54.2.2))) else (some (.inl ())))) (joinX fun (s72 : Unit) => (some ((⟨y1.1, y4.1, y54.1⟩ : St23), true, y54.2.2)))))))))
theorem dec_reader__number_s0_ok {x0 : List UInt8} {x1 : Int} {r : St23 × Bool × Int} (h : dec_reader__number_s0 x0 x1 = some r) : SC Tryd.prog 25 [.ptr 0 0] [.box [.str x0, .int .i64 x1]] (.tup [.agg (encSt23 r.1), .bool r.2.1]) [.box [.str x0, .int .i64 r.2.2]] := by
 refine kFn (fn := Tryd.f25) (fun F hFn hFH hFD => ?_)
 unfold dec_reader__number_s0 at h
 refine kSR ?_
 refine kC 2 [0,2,3] ?_
 refine kEN ?_
 refine kSR ?_
 refine kC 1 [0,2,3,8] ?_
 obtain ⟨y1, hy2, h3⟩ := bindS h
 refine RJ.callG (d := (some 9)) (f := 38) (args := [.ptr 0 0, .int .u8 45]) (args0 := [.ptr 0 0, .int .u8 45]) (v0 := .bool y1.1) (v := .bool y1.1) (tr2 := []) (H0 := [.box [.str x0, .int .i64 x1]]) (H0' := [.box [.str x0, .int .i64 y1.2]]) (H2 := [.box [.str x0, .int .i64 y1.2], .box [.bool false, .nl, .int .i64 0]]) [0] (by kernel_rfl) (by kernel_rfl) (by kernel_rfl) (by kernel_rfl) (by decide) (by kernel_rfl) (by kernel_rfl) (by kernel_rfl) (.cons (Le.refl _) (.cons (Le.refl _) .nil)) (dec_reader__eat_s0_ok hy2) (by kernel_rfl) (by kernel_rfl) (by kernel_rfl) ?_
 refine kC 1 [0,2,3,4] ?_
 refine kEN ?_
 refine kSR ?_
 refine RJ.seg 1 [0, 2, 3, 4, 11] (L2 := [(0, .ptr 0 0), (2, .ptr 1 0), (3, .bool false), (4, .bool y1.1), (11, .ptr 0 0)]) (H2 := [.box [.str x0, .int .i64 y1.2], .box [.bool false, .nl, .int .i64 0]]) (by kernel_rfl) ?_
 obtain ⟨y4, hy5, h6⟩ := bindS h3
 refine RJ.callG (d := (some 12)) (f := 39) (args := [.ptr 0 0]) (args0 := [.ptr 0 0]) (v0 := .tup [lsv (encI .u8) 1 y4.1, .bool y4.2.1]) (v := .tup [lsv (encI .u8) 1 y4.1, .bool y4.2.1]) (tr2 := []) (H0 := [.box [.str x0, .int .i64 y1.2]]) (H0' := [.box [.str x0, .int .i64 y4.2.2]]) (H2 := [.box [.str x0, .int .i64 y4.2.2], .box [.bool false, .nl, .int .i64 0]]) [0] (by kernel_rfl) (by kernel_rfl) (by kernel_rfl) (by kernel_rfl) (by decide) (by kernel_rfl) (by kernel_rfl) (by kernel_rfl) (.cons (Le.refl _) .nil) (dec_reader__figures_s0_ok hy5) (by kernel_rfl) (by kernel_rfl) (by kernel_rfl) ?_
 refine kC 5 [0,2,3,4,5,6] ?_
 refine kEN ?_
 obtain ⟨y29, hy30, h31⟩ := bindS h6
 refine K.cutX (by kernel_rfl) (fun (s28 : Int) => ([(0, .ptr 0 0), (2, .ptr 1 0), (3, .bool false), (4, .bool y1.1), (5, lsv (encI .u8) 1 y4.1), (6, .bool y4.2.1)], [.box [.str x0, .int .i64 s28], .box [.bool false, .nl, .int .i64 0]])) y29 ?_ (fun s28 hs => ?_)
 ·obtain ⟨s39, hy41, h43⟩ := bindS hy30
  refine K.cutN (by kernel_rfl) (fun (s39 : Bool × Int) => ([(0, .ptr 0 0), (2, .ptr 1 0), (3, .bool false), (4, .bool y1.1), (5, lsv (encI .u8) 1 y4.1), (6, .bool y4.2.1), (21, .bool s39.1)], [.box [.str x0, .int .i64 s39.2], .box [.bool false, .nl, .int .i64 0]])) s39 ?_ ?_
  ·refine kR ?_
   refine kC 3 [0,2,3,4,5,6,17] ?_
   refine RJ.caseB 17 (b := (!y4.2.1)) (by kernel_rfl) (fun hb44 => ?_) (fun hb44 => ?_)
   ·have h45 := condT hb44 hy41
    refine kC 4 [0,2,3,4,5,6,21] ?_
    refine kE ?_
    obtain rfl := oi h45
    exact kN [0, 2, 3, 4, 5, 6, 21]
   ·have h46 := condF hb44 hy41
    refine kC 1 [0,2,3,4,5,6,17,18] ?_
    obtain ⟨y47, hy48, h49⟩ := bindS h46
    refine RJ.callG (d := (some 19)) (f := 38) (args := [.ptr 0 0, .int .u8 101]) (args0 := [.ptr 0 0, .int .u8 101]) (v0 := .bool y47.1) (v := .bool y47.1) (tr2 := []) (H0 := [.box [.str x0, .int .i64 y4.2.2]]) (H0' := [.box [.str x0, .int .i64 y47.2]]) (H2 := [.box [.str x0, .int .i64 y47.2], .box [.bool false, .nl, .int .i64 0]]) [0] (by kernel_rfl) (by kernel_rfl) (by kernel_rfl) (by kernel_rfl) (by decide) (by kernel_rfl) (by kernel_rfl) (by kernel_rfl) (.cons (Le.refl _) (.cons (Le.refl _) .nil)) (dec_reader__eat_s0_ok hy48) (by kernel_rfl) (by kernel_rfl) (by kernel_rfl) ?_
    refine RJ.seg 2 [0, 2, 3, 4, 5, 6, 21] (L2 := [(0, .ptr 0 0), (2, .ptr 1 0), (3, .bool false), (4, .bool y1.1), (5, lsv (encI .u8) 1 y4.1), (6, .bool y4.2.1), (21, .bool (!y47.1))]) (H2 := [.box [.str x0, .int .i64 y47.2], .box [.bool false, .nl, .int .i64 0]]) (by kernel_rfl) ?_
    refine kE ?_
    obtain rfl := oi h49
    exact kN [0, 2, 3, 4, 5, 6, 21]
  ·refine J.caseB 21 (b := s39.1) (by kernel_rfl) (fun hb50 => ?_) (fun hb50 => ?_)
   ·have h51 := condT hb50 h43
    refine kT ?_
    refine kSR ?_
    refine kC 3 [0,2,3,4,5,6] ?_
    refine kEN ?_
    refine kX ?_
    obtain rfl := oi h51
    have h53 := joinX_inr h31
    refine PJ.cutXr (fun e => nomatch e) ?_
    obtain rfl := oi h53
    refine PJ.res (v1 := .tup [.agg [.bool false, .nl, .int .i64 0], .bool false]) (Le.tup (.cons (Le.agg (.cons (Le.refl _) (.cons (Le.nl _) (.cons (Le.refl _) .nil)))) (.cons (Le.refl _) .nil))) ?_
    exact K.retV (H0 := [.box [.str x0, .int .i64 x1]]) [0] (.inr rfl) hFn hFH hFD (by kernel_rfl) (v1 := .tup [.agg [.bool false, .nl, .int .i64 0], .bool false]) (by kernel_rfl) (by kernel_rfl) (by kernel_rfl) (by decide) (by kernel_rfl) (by kernel_rfl) (by kernel_rfl) (by kernel_rfl) (by kernel_rfl)
   ·have h52 := condF hb50 h43
    refine kF ?_
    refine kK ?_
    obtain rfl := oi h52
    exact PJ.cutXl [0, 2, 3, 4, 5, 6] (by kernel_rfl) (by kernel_rfl)
 ·subst hs
  have h32 := joinX_inl h31
  refine kSR ?_
  refine kC 4 [0,2,3,4,5,6,24,27] ?_
  obtain ⟨y54, hy55, h56⟩ := bindS h32
  refine RJ.callG (d := (some 28)) (f := 40) (args := [.ptr 0 0, .bool ((decide ((y4.1.length : Int) = 0)))]) (args0 := [.ptr 0 0, .bool ((decide ((y4.1.length : Int) = 0)))]) (v0 := .tup [.int .i64 y54.1, .bool y54.2.1]) (v := .tup [.int .i64 y54.1, .bool y54.2.1]) (tr2 := []) (H0 := [.box [.str x0, .int .i64 s28]]) (H0' := [.box [.str x0, .int .i64 y54.2.2]]) (H2 := [.box [.str x0, .int .i64 y54.2.2], .box [.bool false, .nl, .int .i64 0]]) [0] (by kernel_rfl) (by kernel_rfl) (by kernel_rfl) (by kernel_rfl) (by decide) (by kernel_rfl) (by kernel_rfl) (by kernel_rfl) (.cons (Le.refl _) (.cons (Le.refl _) .nil)) (dec_reader__power_s0_ok hy55) (by kernel_rfl) (by kernel_rfl) (by kernel_rfl) ?_
  refine kC 5 [0,2,3,4,5,6,7] ?_
  refine kEN ?_
  obtain ⟨y73, hy74, h75⟩ := bindS h56
  refine K.cutX (by kernel_rfl) (fun (s72 : Unit) => ([(2, .ptr 1 0), (3, .bool false), (4, .bool y1.1), (5, lsv (encI .u8) 1 y4.1), (7, .int .i64 y54.1)], [.box [.str x0, .int .i64 y54.2.2], .box [.bool false, .nl, .int .i64 0]])) y73 ?_ (fun s72 hs => ?_)
  ·obtain ⟨s80, hy82, h84⟩ := bindS hy74
   refine K.cutN (by kernel_rfl) (fun (s80 : Bool) => ([(2, .ptr 1 0), (3, .bool false), (4, .bool y1.1), (5, lsv (encI .u8) 1 y4.1), (7, .int .i64 y54.1), (44, .bool s80)], [.box [.str x0, .int .i64 y54.2.2], .box [.bool false, .nl, .int .i64 0]])) s80 ?_ ?_
   ·refine J.keep [0, 2, 3, 4, 5, 6, 7] (L2 := [(0, .ptr 0 0), (2, .ptr 1 0), (3, .bool false), (4, .bool y1.1), (5, lsv (encI .u8) 1 y4.1), (6, .bool y54.2.1), (7, .int .i64 y54.1)]) (by kernel_rfl) ?_
    refine K.draw (by kernel_rfl) (by kernel_rfl) (by kernel_rfl) (H2 := [.box [.str x0, .int .i64 y54.2.2], .box [.bool false, .nl, .int .i64 0]]) (by kernel_rfl) (n := 2) (by kernel_rfl) ?_
    refine kD 3 ?_
    refine RJ.caseB 33 (b := (!y54.2.1)) (by kernel_rfl) (fun hb85 => ?_) (fun hb85 => ?_)
    ·have h86 := condT hb85 hy82
     refine RJ.segD 11 (tr2 := [([], []), ([], []), ([], []), ([], []), ([], []), ([], []), ([], []), ([], []), ([], []), ([], []), ([], []), ([], []), ([], []), ([], [])]) (L2 := [(44, .bool true), (43, .tup []), (42, .tup []), (41, .tup []), (40, .tup []), (39, .tup []), (38, .tup []), (37, .tup []), (36, .tup []), (35, .tup []), (34, .tup []), (33, .bool true), (33, .bool (!y54.2.1)), (32, .bool (!y54.2.1)), (31, .bool y54.2.1), (0, .ptr 0 0), (2, .ptr 1 0), (3, .bool false), (4, .bool y1.1), (5, lsv (encI .u8) 1 y4.1), (6, .bool y54.2.1), (7, .int .i64 y54.1)]) (H2 := [.box [.str x0, .int .i64 y54.2.2], .box [.bool false, .nl, .int .i64 0]]) (by kernel_rfl) ?_
     refine kE ?_
     obtain rfl := oi h86
     exact kN [2, 3, 4, 5, 7, 44]
    ·have h87 := condF hb85 hy82
     refine RJ.segD 11 (tr2 := [([], []), ([], []), ([], []), ([], []), ([], []), ([], []), ([0, 1], []), ([], []), ([], []), ([], []), ([0, 1], []), ([], []), ([], []), ([], [])]) (L2 := [(44, .bool ((decide (y54.2.2 < (x0.length : Int))))), (43, .bool ((decide (y54.2.2 < (x0.length : Int))))), (42, .int .i64 (x0.length : Int)), (41, .str x0), (40, .ptr 0 0), (39, .ptr 0 0), (38, .ptr 0 0), (37, .int .i64 y54.2.2), (36, .ptr 0 1), (35, .ptr 0 0), (34, .ptr 0 0), (33, .bool false), (33, .bool (!y54.2.1)), (32, .bool (!y54.2.1)), (31, .bool y54.2.1), (0, .ptr 0 0), (2, .ptr 1 0), (3, .bool false), (4, .bool y1.1), (5, lsv (encI .u8) 1 y4.1), (6, .bool y54.2.1), (7, .int .i64 y54.1)]) (H2 := [.box [.str x0, .int .i64 y54.2.2], .box [.bool false, .nl, .int .i64 0]]) (by kernel_rfl) ?_
     refine kE ?_
     obtain rfl := oi h87
     exact kN [2, 3, 4, 5, 7, 44]
   ·refine J.caseB 44 (b := s80) (by kernel_rfl) (fun hb88 => ?_) (fun hb88 => ?_)
    ·have h89 := condT hb88 h84
     refine kT ?_
     refine kSR ?_
     refine kC 3 [2,3,4,5,7] ?_
     refine kEN ?_
     refine kX ?_
     obtain rfl := oi h89
     have h91 := joinX_inr h75
     refine PJ.cutXr (fun e => nomatch e) ?_
     obtain rfl := oi h91
     refine PJ.res (v1 := .tup [.agg [.bool false, .nl, .int .i64 0], .bool false]) (Le.tup (.cons (Le.agg (.cons (Le.refl _) (.cons (Le.nl _) (.cons (Le.refl _) .nil)))) (.cons (Le.refl _) .nil))) ?_
     exact K.retV (H0 := [.box [.str x0, .int .i64 x1]]) [0] (.inr rfl) hFn hFH hFD (by kernel_rfl) (v1 := .tup [.agg [.bool false, .nl, .int .i64 0], .bool false]) (by kernel_rfl) (by kernel_rfl) (by kernel_rfl) (by decide) (by kernel_rfl) (by kernel_rfl) (by kernel_rfl) (by kernel_rfl) (by kernel_rfl)
    ·have h90 := condF hb88 h84
     refine kF ?_
     refine kK ?_
     obtain rfl := oi h90
     exact PJ.cutXl [2, 3, 4, 5, 7] (by kernel_rfl) (by kernel_rfl)
  ·subst hs
   have h76 := joinX_inl h75
   refine kSR ?_
   refine kC 6 [2,3] ?_
   refine kEN ?_
   refine kX ?_
   obtain rfl := oi h76
   exact K.retV (H0 := [.box [.str x0, .int .i64 x1]]) [0] (.inr rfl) hFn hFH hFD (by kernel_rfl) (v1 := .tup [.agg [.bool y1.1, lsv (encI .u8) 1 y4.1, .int .i64 y54.1], .bool true]) (by kernel_rfl) (by kernel_rfl) (by kernel_rfl) (by decide) (by kernel_rfl) (by kernel_rfl) (by kernel_rfl) (by kernel_rfl) (by kernel_rfl)

def dec_Read (x0 : List UInt8) : Option (St23 × Int × Int) :=
 (Option.bind (dec_reader__number_s0 x0 0) fun y1 => (bif (!y1.2.1) then (some ((⟨false, ([] : List Int), 0⟩ : St23), y1.2.2, 2)) else (some (y1.1, 0, 0))))
theorem dec_Read_ok {x0 : List UInt8} {r : St23 × Int × Int} (h : dec_Read x0 = some r) : SC Tryd.prog 11 [.str x0] [] (.tup [.agg (encSt23 r.1), .int .i64 r.2.1, .int .i64 r.2.2]) [] := by
 refine kFn (fn := Tryd.f11) (fun F hFn hFH hFD => ?_)
 unfold dec_Read at h
 refine kSR ?_
 refine kC 3 [0,2,3,4] ?_
 refine kEN ?_
 refine kSR ?_
 refine kC 4 [2,3,4,5] ?_
 refine kEN ?_
 refine kSR ?_
 refine kC 1 [2,3,4,5,12] ?_
 obtain ⟨y1, hy2, h3⟩ := bindS h
 refine RJ.callG (d := (some 13)) (f := 25) (args := [.ptr 1 0]) (args0 := [.ptr 0 0]) (v0 := .tup [.agg (encSt23 y1.1), .bool y1.2.1]) (v := .tup [.agg (encSt23 y1.1), .bool y1.2.1]) (tr2 := []) (H0 := [.box [.str x0, .int .i64 0]]) (H0' := [.box [.str x0, .int .i64 y1.2.2]]) (H2 := [.box [.bool false, .nl, .int .i64 0], .box [.str x0, .int .i64 y1.2.2]]) [1] (by kernel_rfl) (by kernel_rfl) (by kernel_rfl) (by kernel_rfl) (by decide) (by kernel_rfl) (by kernel_rfl) (by kernel_rfl) (.cons (Le.refl _) .nil) (dec_reader__number_s0_ok hy2) (by kernel_rfl) (by kernel_rfl) (by kernel_rfl) ?_
 refine RJ.seg 6 [2, 3, 4, 5, 6, 7] (L2 := [(2, .ptr 0 0), (3, .int .i64 0), (4, .int .i64 0), (5, .ptr 1 0), (6, .ptr 2 0), (7, .bool y1.2.1)]) (H2 := [.box [.bool false, .nl, .int .i64 0], .box [.str x0, .int .i64 y1.2.2], .box (encSt23 y1.1)]) (by kernel_rfl) ?_
 refine kEN ?_
 refine kS ?_
 refine kSR ?_
 refine kC 2 [2,3,4,5,6,17] ?_
 refine kEN ?_
 refine J.caseB 17 (b := (!y1.2.1)) (by kernel_rfl) (fun hb4 => ?_) (fun hb4 => ?_)
 ·have h5 := condT hb4 h3
  refine kT ?_
  refine kS ?_
  refine J.keep [2, 3, 4, 5, 6] (L2 := [(2, .ptr 0 0), (3, .int .i64 0), (4, .int .i64 0), (5, .ptr 1 0), (6, .ptr 2 0)]) (by kernel_rfl) ?_
  refine K.draw (by kernel_rfl) (by kernel_rfl) (by kernel_rfl) (H2 := [.box [.bool false, .nl, .int .i64 0], .box [.str x0, .int .i64 y1.2.2], .box (encSt23 y1.1)]) (by kernel_rfl) (n := 3) (by kernel_rfl) ?_
  refine kD 8 ?_
  refine kEN ?_
  refine kX ?_
  refine PJ.passRet ?_
  obtain rfl := oi h5
  refine PJ.res (v1 := .tup [.agg [.bool false, .nl, .int .i64 0], .int .i64 y1.2.2, .int .i64 2]) (Le.tup (.cons (Le.agg (.cons (Le.refl _) (.cons (Le.nl _) (.cons (Le.refl _) .nil)))) (.cons (Le.refl _) (.cons (Le.refl _) .nil)))) ?_
  exact kZ hFn hFH hFD
 ·have h6 := condF hb4 h3
  refine kF ?_
  refine kK ?_
  refine PJ.next ?_
  refine kSR ?_
  refine kC 4 [2,3,4] ?_
  refine kEN ?_
  refine kX ?_
  obtain rfl := oi h6
  exact kZ hFn hFH hFD

/-- A constant of the program. -/
def k0_ : List UInt8 := [48, 48, 48, 49, 48, 50, 48, 51, 48, 52, 48, 53, 48, 54, 48, 55, 48, 56, 48, 57, 49, 48, 49, 49, 49, 50, 49, 51, 49, 52, 49, 53, 49, 54, 49, 55, 49, 56, 49, 57, 50, 48, 50, 49, 50, 50, 50, 51, 50, 52, 50, 53, 50, 54, 50, 55, 50, 56, 50, 57, 51, 48, 51, 49, 51, 50, 51, 51, 51, 52, 51, 53, 51, 54, 51, 55, 51, 56, 51, 57, 52, 48, 52, 49, 52, 50, 52, 51, 52, 52, 52, 53, 52, 54, 52, 55, 52, 56, 52, 57, 53, 48, 53, 49, 53, 50, 53, 51, 53, 52, 53, 53, 53, 54, 53, 55, 53, 56, 53, 57, 54, 48, 54, 49, 54, 50, 54, 51, 54, 52, 54, 53, 54, 54, 54, 55, 54, 56, 54, 57, 55, 48, 55, 49, 55, 50, 55, 51, 55, 52, 55, 53, 55, 54, 55, 55, 55, 56, 55, 57, 56, 48, 56, 49, 56, 50, 56, 51, 56, 52, 56, 53, 56, 54, 56, 55, 56, 56, 56, 57, 57, 48, 57, 49, 57, 50, 57, 51, 57, 52, 57, 53, 57, 54, 57, 55, 57, 56, 57, 57]

def strconv_small (x0 : Int) : Option (List UInt8) :=
 (bif (decide (x0 < 10)) then (bif inS x0 (IntKind.wrap .i64 (x0 + 1)) ([48, 49, 50, 51, 52, 53, 54, 55, 56, 57, 97, 98, 99, 100, 101, 102, 103, 104, 105, 106, 107, 108, 109, 110, 111, 112, 113, 114, 115, 116, 117, 118, 119, 120, 121, 122] : List UInt8).length then (some (cut ([48, 49, 50, 51, 52, 53, 54, 55, 56, 57, 97, 98, 99, 100, 101, 102, 103, 104, 105, 106, 107, 108, 109, 110, 111, 112, 113, 114, 115, 116, 117, 118, 119, 120, 121, 122] : List UInt8) x0 (IntKind.wrap .i64 (x0 + 1)))) else none) else (bif inS (IntKind.wrap .i64 (x0 * 2)) ((IntKind.wrap .i64 ((IntKind.wrap .i64 (x0 * 2)) + 2))) k0_.length then (some (cut k0_ (IntKind.wrap .i64 (x0 * 2)) ((IntKind.wrap .i64 ((IntKind.wrap .i64 (x0 * 2)) + 2))))) else none))
theorem strconv_small_ok {x0 : Int} {r : List UInt8} (h : strconv_small x0 = some r) : SC Tryd.prog 44 [.int .i64 x0] [] (.str r) [] := by
 refine kFn (fn := Tryd.f44) (fun F hFn hFH hFD => ?_)
 unfold strconv_small at h
 refine kSR ?_
 refine kC 1 [0,2] ?_
 refine kEN ?_
 refine kS ?_
 refine kSR ?_
 refine kC 2 [0,2,4] ?_
 refine kEN ?_
 refine J.caseB 4 (b := (decide (x0 < 10))) (by kernel_rfl) (fun hb1 => ?_) (fun hb1 => ?_)
 ·have h2 := condT hb1 h
  refine kT ?_
  refine kSR ?_
  refine kC 3 [0,2,5,7] ?_
  obtain ⟨hm, h4⟩ := asrt h2
  refine RJ.rel (d := (some 8)) (ef := ⟨.str (cut ([48, 49, 50, 51, 52, 53, 54, 55, 56, 57, 97, 98, 99, 100, 101, 102, 103, 104, 105, 106, 107, 108, 109, 110, 111, 112, 113, 114, 115, 116, 117, 118, 119, 120, 121, 122] : List UInt8) x0 (IntKind.wrap .i64 (x0 + 1))), [], []⟩) (ef' := ⟨.str (cut ([48, 49, 50, 51, 52, 53, 54, 55, 56, 57, 97, 98, 99, 100, 101, 102, 103, 104, 105, 106, 107, 108, 109, 110, 111, 112, 113, 114, 115, 116, 117, 118, 119, 120, 121, 122] : List UInt8) x0 (IntKind.wrap .i64 (x0 + 1))), [], []⟩) (c := inS x0 (IntKind.wrap .i64 (x0 + 1)) ([48, 49, 50, 51, 52, 53, 54, 55, 56, 57, 97, 98, 99, 100, 101, 102, 103, 104, 105, 106, 107, 108, 109, 110, 111, 112, 113, 114, 115, 116, 117, 118, 119, 120, 121, 122] : List UInt8).length) (tr2 := []) (H2 := []) (by kernel_rfl) hm (fun hc => rfl) (by kernel_rfl) ?_
  refine RJ.seg 1 [0, 2] (L2 := [(0, .int .i64 x0), (2, .str ((cut ([48, 49, 50, 51, 52, 53, 54, 55, 56, 57, 97, 98, 99, 100, 101, 102, 103, 104, 105, 106, 107, 108, 109, 110, 111, 112, 113, 114, 115, 116, 117, 118, 119, 120, 121, 122] : List UInt8) x0 (IntKind.wrap .i64 (x0 + 1)))))]) (H2 := []) (by kernel_rfl) ?_
  refine kEN ?_
  refine kX ?_
  refine PJ.passRet ?_
  obtain rfl := oi h4
  exact kZ hFn hFH hFD
 ·have h3 := condF hb1 h
  refine kF ?_
  refine kK ?_
  refine PJ.next ?_
  refine kSR ?_
  refine kC 5 [2,10,13] ?_
  obtain ⟨hm, h5⟩ := asrt h3
  refine RJ.rel (d := (some 14)) (ef := ⟨.str (cut k0_ (IntKind.wrap .i64 (x0 * 2)) ((IntKind.wrap .i64 ((IntKind.wrap .i64 (x0 * 2)) + 2)))), [], []⟩) (ef' := ⟨.str (cut k0_ (IntKind.wrap .i64 (x0 * 2)) ((IntKind.wrap .i64 ((IntKind.wrap .i64 (x0 * 2)) + 2)))), [], []⟩) (c := inS (IntKind.wrap .i64 (x0 * 2)) ((IntKind.wrap .i64 ((IntKind.wrap .i64 (x0 * 2)) + 2))) k0_.length) (tr2 := []) (H2 := []) (by kernel_rfl) hm (fun hc => rfl) (by kernel_rfl) ?_
  refine RJ.seg 1 [2] (L2 := [(2, .str ((cut k0_ (IntKind.wrap .i64 (x0 * 2)) ((IntKind.wrap .i64 ((IntKind.wrap .i64 (x0 * 2)) + 2))))))]) (H2 := []) (by kernel_rfl) ?_
  refine kEN ?_
  refine kX ?_
  obtain rfl := oi h5
  exact kZ hFn hFH hFD

/-- A constant of the program. -/
def k1_ : List UInt8 := [0, 1, 2, 2, 3, 3, 3, 3, 4, 4, 4, 4, 4, 4, 4, 4, 5, 5, 5, 5, 5, 5, 5, 5, 5, 5, 5, 5, 5, 5, 5, 5, 6, 6, 6, 6, 6, 6, 6, 6, 6, 6, 6, 6, 6, 6, 6, 6, 6, 6, 6, 6, 6, 6, 6, 6, 6, 6, 6, 6, 6, 6, 6, 6, 7, 7, 7, 7, 7, 7, 7, 7, 7, 7, 7, 7, 7, 7, 7, 7, 7, 7, 7, 7, 7, 7, 7, 7, 7, 7, 7, 7, 7, 7, 7, 7, 7, 7, 7, 7, 7, 7, 7, 7, 7, 7, 7, 7, 7, 7, 7, 7, 7, 7, 7, 7, 7, 7, 7, 7, 7, 7, 7, 7, 7, 7, 7, 7, 8, 8, 8, 8, 8, 8, 8, 8, 8, 8, 8, 8, 8, 8, 8, 8, 8, 8, 8, 8, 8, 8, 8, 8, 8, 8, 8, 8, 8, 8, 8, 8, 8, 8, 8, 8, 8, 8, 8, 8, 8, 8, 8, 8, 8, 8, 8, 8, 8, 8, 8, 8, 8, 8, 8, 8, 8, 8, 8, 8, 8, 8, 8, 8, 8, 8, 8, 8, 8, 8, 8, 8, 8, 8, 8, 8, 8, 8, 8, 8, 8, 8, 8, 8, 8, 8, 8, 8, 8, 8, 8, 8, 8, 8, 8, 8, 8, 8, 8, 8, 8, 8, 8, 8, 8, 8, 8, 8, 8, 8, 8, 8, 8, 8, 8, 8, 8, 8, 8, 8, 8, 8, 8, 8, 8, 8, 8, 8]

def bits_Len64 (x0 : Int) : Option (Int) :=
 (Option.bind (bif (decide (x0 ≥ 4294967296)) then (some ((Int.fdiv x0 4294967296), 32)) else (some (x0, 0))) fun (s4 : Int × Int) => (Option.bind (bif (decide (s4.1 ≥ 65536)) then (some ((Int.fdiv s4.1 65536), (IntKind.wrap .i64 (s4.2 + 16)))) else (some (s4.1, s4.2))) fun (s15 : Int × Int) => (Option.bind (bif (decide (s15.1 ≥ 256)) then (some ((Int.fdiv s15.1 256), (IntKind.wrap .i64 (s15.2 + 8)))) else (some (s15.1, s15.2))) fun (s26 : Int × Int) => (bif inR (IntKind.wrap .u8 s26.1) k1_.length then (some (IntKind.wrap .i64 (s26.2 + ((IntKind.wrap .i64 ((((k1_.getD ((IntKind.wrap .u8 s26.1) : Int).toNat 0).toNat : Nat) : Int))))))) else none))))
theorem bits_Len64_ok {x0 : Int} {r : Int} (h : bits_Len64 x0 = some r) : SC Tryd.prog 49 [.int .u64 x0] [] (.int .i64 r) [] := by
 refine kFn (fn := Tryd.f49) (fun F hFn hFH hFD => ?_)
 unfold bits_Len64 at h
 refine kSR ?_
 refine kC 1 [0,2] ?_
 refine kEN ?_
 obtain ⟨s4, hy6, h8⟩ := bindS h
 refine K.cutN (by kernel_rfl) (fun (s4 : Int × Int) => ([(0, .int .u64 s4.1), (2, .int .i64 s4.2)], [])) s4 ?_ ?_
 ·refine kSR ?_
  refine kC 2 [0,2,4] ?_
  refine kEN ?_
  refine J.caseB 4 (b := (decide (x0 ≥ 4294967296))) (by kernel_rfl) (fun hb9 => ?_) (fun hb9 => ?_)
  ·have h10 := condT hb9 hy6
   refine kT ?_
   refine kSR ?_
   refine kC 3 [0,2] ?_
   refine kEN ?_
   refine kR ?_
   refine RJ.seg 1 [0, 2] (L2 := [(0, .int .u64 (Int.fdiv x0 4294967296)), (2, .int .i64 32)]) (H2 := []) (by kernel_rfl) ?_
   refine kE ?_
   obtain rfl := oi h10
   exact kN [0, 2]
  ·have h11 := condF hb9 hy6
   refine kF ?_
   refine kK ?_
   obtain rfl := oi h11
   exact kN [0, 2]
 ·obtain ⟨s15, hy17, h19⟩ := bindS h8
  refine K.cutN (by kernel_rfl) (fun (s15 : Int × Int) => ([(0, .int .u64 s15.1), (2, .int .i64 s15.2)], [])) s15 ?_ ?_
  ·refine kSR ?_
   refine kC 2 [0,2,8] ?_
   refine kEN ?_
   refine J.caseB 8 (b := (decide (s4.1 ≥ 65536))) (by kernel_rfl) (fun hb20 => ?_) (fun hb20 => ?_)
   ·have h21 := condT hb20 hy17
    refine kT ?_
    refine kSR ?_
    refine kC 3 [0,2] ?_
    refine kEN ?_
    refine kR ?_
    refine kC 3 [0,2] ?_
    refine kE ?_
    obtain rfl := oi h21
    exact kN [0, 2]
   ·have h22 := condF hb20 hy17
    refine kF ?_
    refine kK ?_
    obtain rfl := oi h22
    exact kN [0, 2]
  ·obtain ⟨s26, hy28, h30⟩ := bindS h19
   refine K.cutN (by kernel_rfl) (fun (s26 : Int × Int) => ([(0, .int .u64 s26.1), (2, .int .i64 s26.2)], [])) s26 ?_ ?_
   ·refine kSR ?_
    refine kC 2 [0,2,14] ?_
    refine kEN ?_
    refine J.caseB 14 (b := (decide (s15.1 ≥ 256))) (by kernel_rfl) (fun hb31 => ?_) (fun hb31 => ?_)
    ·have h32 := condT hb31 hy28
     refine kT ?_
     refine kSR ?_
     refine kC 3 [0,2] ?_
     refine kEN ?_
     refine kR ?_
     refine kC 3 [0,2] ?_
     refine kE ?_
     obtain rfl := oi h32
     exact kN [0, 2]
    ·have h33 := condF hb31 hy28
     refine kF ?_
     refine kK ?_
     obtain rfl := oi h33
     exact kN [0, 2]
   ·refine kSR ?_
    refine kC 3 [2,19,21] ?_
    obtain ⟨hm, h34⟩ := asrt h30
    refine RJ.rel (d := (some 22)) (ef := ⟨.int .u8 (((k1_.getD ((IntKind.wrap .u8 s26.1) : Int).toNat 0).toNat : Nat) : Int), [], []⟩) (ef' := ⟨.int .u8 (((k1_.getD ((IntKind.wrap .u8 s26.1) : Int).toNat 0).toNat : Nat) : Int), [], []⟩) (c := inR (IntKind.wrap .u8 s26.1) k1_.length) (tr2 := []) (H2 := []) (by kernel_rfl) hm (fun hc => rfl) (by kernel_rfl) ?_
    refine kC 3 [2] ?_
    refine kEN ?_
    refine kX ?_
    obtain rfl := oi h34
    exact kZ hFn hFH hFD

def strconv_log10Pow2 (x0 : Int) : Option (Int) :=
 (some (Int.fdiv (IntKind.wrap .i64 (x0 * 78913)) 262144))
theorem strconv_log10Pow2_ok {x0 : Int} {r : Int} (h : strconv_log10Pow2 x0 = some r) : SC Tryd.prog 48 [.int .i64 x0] [] (.int .i64 r) [] := by
 refine kFn (fn := Tryd.f48) (fun F hFn hFH hFD => ?_)
 unfold strconv_log10Pow2 at h
 refine kSR ?_
 refine kC 1 [0,2] ?_
 refine kEN ?_
 refine kSR ?_
 refine kC 4 [2] ?_
 refine kEN ?_
 refine kX ?_
 obtain rfl := oi h
 exact kZ hFn hFH hFD

/-- A constant of the program. -/
def k2_ : List Int := [1, 10, 100, 1000, 10000, 100000, 1000000, 10000000, 100000000, 1000000000, 10000000000, 100000000000, 1000000000000, 10000000000000, 100000000000000, 1000000000000000, 10000000000000000, 100000000000000000, 1000000000000000000, 10000000000000000000]

def strconv_bool2 (x0 : Bool) : Option (Int) :=
 (bif x0 then (some 1) else (some 0))
theorem strconv_bool2_ok {x0 : Bool} {r : Int} (h : strconv_bool2 x0 = some r) : SC Tryd.prog 50 [.bool x0] [] (.int .i64 r) [] := by
 refine kFn (fn := Tryd.f50) (fun F hFn hFH hFD => ?_)
 unfold strconv_bool2 at h
 refine kSR ?_
 refine kC 1 [0,2] ?_
 refine kEN ?_
 refine kS ?_
 refine kSR ?_
 refine kC 1 [2,3] ?_
 refine kEN ?_
 refine J.caseB 3 (b := x0) (by kernel_rfl) (fun hb1 => ?_) (fun hb1 => ?_)
 ·have h2 := condT hb1 h
  refine kT ?_
  refine kSR ?_
  refine kC 1 [2] ?_
  refine kEN ?_
  refine kX ?_
  refine PJ.passRet ?_
  obtain rfl := oi h2
  exact kZ hFn hFH hFD
 ·have h3 := condF hb1 h
  refine kF ?_
  refine kK ?_
  refine PJ.next ?_
  refine kSR ?_
  refine kC 1 [2] ?_
  refine kEN ?_
  refine kX ?_
  obtain rfl := oi h3
  exact kZ hFn hFH hFD

def strconv_numDigits (x0 : Int) : Option (Int) :=
 (Option.bind (bits_Len64 x0) fun y1 => (Option.bind (strconv_log10Pow2 y1) fun y4 => (bif inR y4 20 then (Option.bind (strconv_bool2 ((decide (x0 ≥ (nth k2_ y4))))) fun y8 => (some (IntKind.wrap .i64 (y4 + y8)))) else none)))
theorem strconv_numDigits_ok {x0 : Int} {r : Int} (h : strconv_numDigits x0 = some r) : SC Tryd.prog 45 [.int .u64 x0] [] (.int .i64 r) [] := by
 refine kFn (fn := Tryd.f45) (fun F hFn hFH hFD => ?_)
 unfold strconv_numDigits at h
 refine kSR ?_
 refine kC 1 [0,2] ?_
 refine kEN ?_
 refine kSR ?_
 refine kC 1 [0,2,4] ?_
 obtain ⟨y1, hy2, h3⟩ := bindS h
 refine RJ.call0 (d := (some 5)) (f := 49) (args := [.int .u64 x0]) (v := .int .i64 y1) (tr2 := []) (by kernel_rfl) (by kernel_rfl) (.cons (Le.refl _) .nil) (bits_Len64_ok hy2) (by kernel_rfl) ?_
 obtain ⟨y4, hy5, h6⟩ := bindS h3
 refine RJ.call0 (d := (some 6)) (f := 48) (args := [.int .i64 y1]) (v := .int .i64 y4) (tr2 := []) (by kernel_rfl) (by kernel_rfl) (.cons (Le.refl _) .nil) (strconv_log10Pow2_ok hy5) (by kernel_rfl) ?_
 refine kC 1 [0,2,3] ?_
 refine kEN ?_
 refine kSR ?_
 refine RJ.seg 3 [2, 7, 8, 9] (L2 := [(2, .int .i64 0), (7, .int .i64 y4), (8, .int .u64 x0), (9, .int .i64 y4)]) (H2 := []) (by kernel_rfl) ?_
 obtain ⟨hm, h7⟩ := asrt h6
 refine RJ.rel (d := (some 10)) (ef := ⟨.ep (((k2_.flatMap (encI .u64)).drop ((y4 : Int).toNat * 1)).take 1), [], []⟩) (ef' := ⟨.ep ((encI .u64) (nth k2_ y4)), [], []⟩) (c := inR y4 20) (tr2 := []) (H2 := []) (by kernel_rfl) hm (fun hc => N.idx (encI_len .u64) hc) (by kernel_rfl) ?_
 refine kC 2 [2,7,12] ?_
 obtain ⟨y8, hy9, h10⟩ := bindS h7
 refine RJ.call0 (d := (some 13)) (f := 50) (args := [.bool ((decide (x0 ≥ (nth k2_ y4))))]) (v := .int .i64 y8) (tr2 := []) (by kernel_rfl) (by kernel_rfl) (.cons (Le.refl _) .nil) (strconv_bool2_ok hy9) (by kernel_rfl) ?_
 refine kC 2 [2] ?_
 refine kEN ?_
 refine kX ?_
 obtain rfl := oi h10
 exact kZ hFn hFH hFD

def strconv_formatBase10_s0 (x0 : Int) (x1 : Int) (x2 : List Int) : Option ((List Int)) :=
 (Option.bind (loopN (fun (s96 : Int × Int × (List Int)) => (bif (decide (s96.2.1 ≥ 8)) then (bif inR ((IntKind.wrap .u32 (((IntKind.wrap .u32 (((Int.tmod ((Int.tmod (IntKind.wrap .u32 (Int.tmod s96.1 100000000)) 10000)) 100)) * 2))) + 1))) k0_.length then (bif inR ((IntKind.wrap .u32 (((Int.tmod ((Int.tmod (IntKind.wrap .u32 (Int.tmod s96.1 100000000)) 10000)) 100)) * 2))) k0_.length then (bif inR (IntKind.wrap .i64 (s96.2.1 - 1)) x0.toNat then (bif inP 1 (IntKind.wrap .i64 (s96.2.1 - 1)) s96.2.2.length then (bif inR (IntKind.wrap .i64 (s96.2.1 - 2)) x0.toNat then (bif inP 1 (IntKind.wrap .i64 (s96.2.1 - 2)) ((setAt s96.2.2 ((1 : Nat) + (IntKind.wrap .i64 (s96.2.1 - 1)) : Int) ((((k0_.getD ((IntKind.wrap .u32 (((IntKind.wrap .u32 (((Int.tmod ((Int.tmod (IntKind.wrap .u32 (Int.tmod s96.1 100000000)) 10000)) 100)) * 2))) + 1)) : Int).toNat 0).toNat : Nat) : Int)))).length then (bif inR ((IntKind.wrap .u32 (((IntKind.wrap .u32 (((IntKind.wrap .u32 (Int.tdiv ((Int.tmod (IntKind.wrap .u32 (Int.tmod s96.1 100000000)) 10000)) 100))) * 2))) + 1))) k0_.length then (bif inR ((IntKind.wrap .u32 (((IntKind.wrap .u32 (Int.tdiv ((Int.tmod (IntKind.wrap .u32 (Int.tmod s96.1 100000000)) 10000)) 100))) * 2))) k0_.length then (bif inR (IntKind.wrap .i64 (s96.2.1 - 3)) x0.toNat then (bif inP 1 (IntKind.wrap .i64 (s96.2.1 - 3)) ((setAt ((setAt s96.2.2 ((1 : Nat) + (IntKind.wrap .i64 (s96.2.1 - 1)) : Int) ((((k0_.getD ((IntKind.wrap .u32 (((IntKind.wrap .u32 (((Int.tmod ((Int.tmod (IntKind.wrap .u32 (Int.tmod s96.1 100000000)) 10000)) 100)) * 2))) + 1)) : Int).toNat 0).toNat : Nat) : Int)))) ((1 : Nat) + (IntKind.wrap .i64 (s96.2.1 - 2)) : Int) ((((k0_.getD ((IntKind.wrap .u32 (((Int.tmod ((Int.tmod (IntKind.wrap .u32 (Int.tmod s96.1 100000000)) 10000)) 100)) * 2)) : Int).toNat 0).toNat : Nat) : Int)))).length then (bif inR (IntKind.wrap .i64 (s96.2.1 - 4)) x0.toNat then (bif inP 1 (IntKind.wrap .i64 (s96.2.1 - 4)) ((setAt ((setAt ((setAt s96.2.2 ((1 : Nat) + (IntKind.wrap .i64 (s96.2.1 - 1)) : Int) ((((k0_.getD ((IntKind.wrap .u32 (((IntKind.wrap .u32 (((Int.tmod ((Int.tmod (IntKind.wrap .u32 (Int.tmod s96.1 100000000)) 10000)) 100)) * 2))) + 1)) : Int).toNat 0).toNat : Nat) : Int)))) ((1 : Nat) + (IntKind.wrap .i64 (s96.2.1 - 2)) : Int) ((((k0_.getD ((IntKind.wrap .u32 (((Int.tmod ((Int.tmod (IntKind.wrap .u32 (Int.tmod s96.1 100000000)) 10000)) 100)) * 2)) : Int).toNat 0).toNat : Nat) : Int)))) ((1 : Nat) + (IntKind.wrap .i64 (s96.2.1 - 3)) : Int) ((((k0_.getD ((IntKind.wrap .u32 (((IntKind.wrap .u32 (((IntKind.wrap .u32 (Int.tdiv ((Int.tmod (IntKind.wrap .u32 (Int.tmod s96.1 100000000)) 10000)) 100))) * 2))) + 1)) : Int).toNat 0).toNat : Nat) : Int)))).length then (bif inR ((IntKind.wrap .u32 (((IntKind.wrap .u32 (((Int.tmod ((IntKind.wrap .u32 (Int.tdiv (IntKind.wrap .u32 (Int.tmod s96.1 100000000)) 10000))) 100)) * 2))) + 1))) k0_.length then (bif inR ((IntKind.wrap .u32 (((Int.tmod ((IntKind.wrap .u32 (Int.tdiv (IntKind.wrap .u32 (Int.tmod s96.1 100000000)) 10000))) 100)) * 2))) k0_.length then (bif inR (IntKind.wrap .i64 (s96.2.1 - 5)) x0.toNat then (bif inP 1 (IntKind.wrap .i64 (s96.2.1 - 5)) ((setAt ((setAt ((setAt ((setAt s96.2.2 ((1 : Nat) + (IntKind.wrap .i64 (s96.2.1 - 1)) : Int) ((((k0_.getD ((IntKind.wrap .u32 (((IntKind.wrap .u32 (((Int.tmod ((Int.tmod (IntKind.wrap .u32 (Int.tmod s96.1 100000000)) 10000)) 100)) * 2))) + 1)) : Int).toNat 0).toNat : Nat) : Int)))) ((1 : Nat) + (IntKind.wrap .i64 (s96.2.1 - 2)) : Int) ((((k0_.getD ((IntKind.wrap .u32 (((Int.tmod ((Int.tmod (IntKind.wrap .u32 (Int.tmod s96.1 100000000)) 10000)) 100)) * 2)) : Int).toNat 0).toNat : Nat) : Int)))) ((1 : Nat) + (IntKind.wrap .i64 (s96.2.1 - 3)) : Int) ((((k0_.getD ((IntKind.wrap .u32 (((IntKind.wrap .u32 (((IntKind.wrap .u32 (Int.tdiv ((Int.tmod (IntKind.wrap .u32 (Int.tmod s96.1 100000000)) 10000)) 100))) * 2))) + 1)) : Int).toNat 0).toNat : Nat) : Int)))) ((1 : Nat) + (IntKind.wrap .i64 (s96.2.1 - 4)) : Int) ((((k0_.getD ((IntKind.wrap .u32 (((IntKind.wrap .u32 (Int.tdiv ((Int.tmod (IntKind.wrap .u32 (Int.tmod s96.1 100000000)) 10000)) 100))) * 2)) : Int).toNat 0).toNat : Nat) : Int)))).length then (bif inR (IntKind.wrap .i64 (s96.2.1 - 6)) x0.toNat then (bif inP 1 (IntKind.wrap .i64 (s96.2.1 - 6)) ((setAt ((setAt ((setAt ((setAt ((setAt s96.2.2 ((1 : Nat) + (IntKind.wrap .i64 (s96.2.1 - 1)) : Int) ((((k0_.getD ((IntKind.wrap .u32 (((IntKind.wrap .u32 (((Int.tmod ((Int.tmod (IntKind.wrap .u32 (Int.tmod s96.1 100000000)) 10000)) 100)) * 2))) + 1)) : Int).toNat 0).toNat : Nat) : Int)))) ((1 : Nat) + (IntKind.wrap .i64 (s96.2.1 - 2)) : Int) ((((k0_.getD ((IntKind.wrap .u32 (((Int.tmod ((Int.tmod (IntKind.wrap .u32 (Int.tmod s96.1 100000000)) 10000)) 100)) * 2)) : Int).toNat 0).toNat : Nat) : Int)))) ((1 : Nat) + (IntKind.wrap .i64 (s96.2.1 - 3)) : Int) ((((k0_.getD ((IntKind.wrap .u32 (((IntKind.wrap .u32 (((IntKind.wrap .u32 (Int.tdiv ((Int.tmod (IntKind.wrap .u32 (Int.tmod s96.1 100000000)) 10000)) 100))) * 2))) + 1)) : Int).toNat 0).toNat : Nat) : Int)))) ((1 : Nat) + (IntKind.wrap .i64 (s96.2.1 - 4)) : Int) ((((k0_.getD ((IntKind.wrap .u32 (((IntKind.wrap .u32 (Int.tdiv ((Int.tmod (IntKind.wrap .u32 (Int.tmod s96.1 100000000)) 10000)) 100))) * 2)) : Int).toNat 0).toNat : Nat) : Int)))) ((1 : Nat) + (IntKind.wrap .i64 (s96.2.1 - 5)) : Int) ((((k0_.getD ((IntKind.wrap .u32 (((IntKind.wrap .u32 (((Int.tmod ((IntKind.wrap .u32 (Int.tdiv (IntKind.wrap .u32 (Int.tmod s96.1 100000000)) 10000))) 100)) * 2))) + 1)) : Int).toNat 0).toNat : Nat) : Int)))).length then (bif inR ((IntKind.wrap .u32 (((IntKind.wrap .u32 (((IntKind.wrap .u32 (Int.tdiv ((IntKind.wrap .u32 (Int.tdiv (IntKind.wrap .u32 (Int.tmod s96.1 100000000)) 10000))) 100))) * 2))) + 1))) k0_.length then (bif inR ((IntKind.wrap .u32 (((IntKind.wrap .u32 (Int.tdiv ((IntKind.wrap .u32 (Int.tdiv (IntKind.wrap .u32 (Int.tmod s96.1 100000000)) 10000))) 100))) * 2))) k0_.length then (bif inR (IntKind.wrap .i64 (s96.2.1 - 7)) x0.toNat then (bif inP 1 (IntKind.wrap .i64 (s96.2.1 - 7)) ((setAt ((setAt ((setAt ((setAt ((setAt ((setAt s96.2.2 ((1 : Nat) + (IntKind.wrap .i64 (s96.2.1 - 1)) : Int) ((((k0_.getD ((IntKind.wrap .u32 (((IntKind.wrap .u32 (((Int.tmod ((Int.tmod (IntKind.wrap .u32 (Int.tmod s96.1 100000000)) 10000)) 100)) * 2))) + 1)) : Int).toNat 0).toNat : Nat) : Int)))) ((1 : Nat) + (IntKind.wrap .i64 (s96.2.1 - 2)) : Int) ((((k0_.getD ((IntKind.wrap .u32 (((Int.tmod ((Int.tmod (IntKind.wrap .u32 (Int.tmod s96.1 100000000)) 10000)) 100)) * 2)) : Int).toNat 0).toNat : Nat) : Int)))) ((1 : Nat) + (IntKind.wrap .i64 (s96.2.1 - 3)) : Int) ((((k0_.getD ((IntKind.wrap .u32 (((IntKind.wrap .u32 (((IntKind.wrap .u32 (Int.tdiv ((Int.tmod (IntKind.wrap .u32 (Int.tmod s96.1 100000000)) 10000)) 100))) * 2))) + 1)) : Int).toNat 0).toNat : Nat) : Int)))) ((1 : Nat) + (IntKind.wrap .i64 (s96.2.1 - 4)) : Int) ((((k0_.getD ((IntKind.wrap .u32 (((IntKind.wrap .u32 (Int.tdiv ((Int.tmod (IntKind.wrap .u32 (Int.tmod s96.1 100000000)) 10000)) 100))) * 2)) : Int).toNat 0).toNat : Nat) : Int)))) ((1 : Nat) + (IntKind.wrap .i64 (s96.2.1 - 5)) : Int) ((((k0_.getD ((IntKind.wrap .u32 (((IntKind.wrap .u32 (((Int.tmod ((IntKind.wrap .u32 (Int.tdiv (IntKind.wrap .u32 (Int.tmod s96.1 100000000)) 10000))) 100)) * 2))) + 1)) : Int).toNat 0).toNat : Nat) : Int)))) ((1 : Nat) + (IntKind.wrap .i64 (s96.2.1 - 6)) : Int) ((((k0_.getD ((IntKind.wrap .u32 (((Int.tmod ((IntKind.wrap .u32 (Int.tdiv (IntKind.wrap .u32 (Int.tmod s96.1 100000000)) 10000))) 100)) * 2)) : Int).toNat 0).toNat : Nat) : Int)))).length then (bif inR (IntKind.wrap .i64 (s96.2.1 - 8)) x0.toNat then (bif inP 1 (IntKind.wrap .i64 (s96.2.1 - 8)) ((setAt ((setAt ((setAt ((setAt ((setAt ((setAt ((setAt s96.2.2 ((1 : Nat) + (IntKind.wrap .i64 (s96.2.1 - 1)) : Int) ((((k0_.getD ((IntKind.wrap .u32 (((IntKind.wrap .u32 (((Int.tmod ((Int.tmod (IntKind.wrap .u32 (Int.tmod s96.1 100000000)) 10000)) 100)) * 2))) + 1)) : Int).toNat 0).toNat : Nat) : Int)))) ((1 : Nat) + (IntKind.wrap .i64 (s96.2.1 - 2)) : Int) ((((k0_.getD ((IntKind.wrap .u32 (((Int.tmod ((Int.tmod (IntKind.wrap .u32 (Int.tmod s96.1 100000000)) 10000)) 100)) * 2)) : Int).toNat 0).toNat : Nat) : Int)))) ((1 : Nat) + (IntKind.wrap .i64 (s96.2.1 - 3)) : Int) ((((k0_.getD ((IntKind.wrap .u32 (((IntKind.wrap .u32 (((IntKind.wrap .u32 (Int.tdiv ((Int.tmod (IntKind.wrap .u32 (Int.tmod s96.1 100000000)) 10000)) 100))) * 2))) + 1)) : Int).toNat 0).toNat : Nat) : Int)))) ((1 : Nat) + (IntKind.wrap .i64 (s96.2.1 - 4)) : Int) ((((k0_.getD ((IntKind.wrap .u32 (((IntKind.wrap .u32 (Int.tdiv ((Int.tmod (IntKind.wrap .u32 (Int.tmod s96.1 100000000)) 10000)) 100))) * 2)) : Int).toNat 0).toNat : Nat) : Int)))) ((1 : Nat) + (IntKind.wrap .i64 (s96.2.1 - 5)) : Int) ((((k0_.getD ((IntKind.wrap .u32 (((IntKind.wrap .u32 (((Int.tmod ((IntKind.wrap .u32 (Int.tdiv (IntKind.wrap .u32 (Int.tmod s96.1 100000000)) 10000))) 100)) * 2))) + 1)) : Int).toNat 0).toNat : Nat) : Int)))) ((1 : Nat) + (IntKind.wrap .i64 (s96.2.1 - 6)) : Int) ((((k0_.getD ((IntKind.wrap .u32 (((Int.tmod ((IntKind.wrap .u32 (Int.tdiv (IntKind.wrap .u32 (Int.tmod s96.1 100000000)) 10000))) 100)) * 2)) : Int).toNat 0).toNat : Nat) : Int)))) ((1 : Nat) + (IntKind.wrap .i64 (s96.2.1 - 7)) : Int) ((((k0_.getD ((IntKind.wrap .u32 (((IntKind.wrap .u32 (((IntKind.wrap .u32 (Int.tdiv ((IntKind.wrap .u32 (Int.tdiv (IntKind.wrap .u32 (Int.tmod s96.1 100000000)) 10000))) 100))) * 2))) + 1)) : Int).toNat 0).toNat : Nat) : Int)))).length then (some (.inl ((IntKind.wrap .u64 (Int.tdiv s96.1 100000000)), (IntKind.wrap .i64 (s96.2.1 - 8)), (setAt ((setAt ((setAt ((setAt ((setAt ((setAt ((setAt ((setAt s96.2.2 ((1 : Nat) + (IntKind.wrap .i64 (s96.2.1 - 1)) : Int) ((((k0_.getD ((IntKind.wrap .u32 (((IntKind.wrap .u32 (((Int.tmod ((Int.tmod (IntKind.wrap .u32 (Int.tmod s96.1 100000000)) 10000)) 100)) * 2))) + 1)) : Int).toNat 0).toNat : Nat) : Int)))) ((1 : Nat) + (IntKind.wrap .i64 (s96.2.1 - 2)) : Int) ((((k0_.getD ((IntKind.wrap .u32 (((Int.tmod ((Int.tmod (IntKind.wrap .u32 (Int.tmod s96.1 100000000)) 10000)) 100)) * 2)) : Int).toNat 0).toNat : Nat) : Int)))) ((1 : Nat) + (IntKind.wrap .i64 (s96.2.1 - 3)) : Int) ((((k0_.getD ((IntKind.wrap .u32 (((IntKind.wrap .u32 (((IntKind.wrap .u32 (Int.tdiv ((Int.tmod (IntKind.wrap .u32 (Int.tmod s96.1 100000000)) 10000)) 100))) * 2))) + 1)) : Int).toNat 0).toNat : Nat) : Int)))) ((1 : Nat) + (IntKind.wrap .i64 (s96.2.1 - 4)) : Int) ((((k0_.getD ((IntKind.wrap .u32 (((IntKind.wrap .u32 (Int.tdiv ((Int.tmod (IntKind.wrap .u32 (Int.tmod s96.1 100000000)) 10000)) 100))) * 2)) : Int).toNat 0).toNat : Nat) : Int)))) ((1 : Nat) + (IntKind.wrap .i64 (s96.2.1 - 5)) : Int) ((((k0_.getD ((IntKind.wrap .u32 (((IntKind.wrap .u32 (((Int.tmod ((IntKind.wrap .u32 (Int.tdiv (IntKind.wrap .u32 (Int.tmod s96.1 100000000)) 10000))) 100)) * 2))) + 1)) : Int).toNat 0).toNat : Nat) : Int)))) ((1 : Nat) + (IntKind.wrap .i64 (s96.2.1 - 6)) : Int) ((((k0_.getD ((IntKind.wrap .u32 (((Int.tmod ((IntKind.wrap .u32 (Int.tdiv (IntKind.wrap .u32 (Int.tmod s96.1 100000000)) 10000))) 100)) * 2)) : Int).toNat 0).toNat : Nat) : Int)))) ((1 : Nat) + (IntKind.wrap .i64 (s96.2.1 - 7)) : Int) ((((k0_.getD ((IntKind.wrap .u32 (((IntKind.wrap .u32 (((IntKind.wrap .u32 (Int.tdiv ((IntKind.wrap .u32 (Int.tdiv (IntKind.wrap .u32 (Int.tmod s96.1 100000000)) 10000))) 100))) * 2))) + 1)) : Int).toNat 0).toNat : Nat) : Int)))) ((1 : Nat) + (IntKind.wrap .i64 (s96.2.1 - 8)) : Int) ((((k0_.getD ((IntKind.wrap .u32 (((IntKind.wrap .u32 (Int.tdiv ((IntKind.wrap .u32 (Int.tdiv (IntKind.wrap .u32 (Int.tmod s96.1 100000000)) 10000))) 100))) * 2)) : Int).toNat 0).toNat : Nat) : Int)))))) else none) else none) else none) else none) else none) else none) else none) else none) else none) else none) else none) else none) else none) else none) else none) else none) else none) else none) else none) else none) else none) else none) else none) else none) else (some (.inr (s96.1, s96.2.1, s96.2.2))))) big (x1, ((x0.toNat : Nat) : Int), x2)) fun (s91 : Int × Int × (List Int)) => (Option.bind (bif (decide (s91.2.1 ≥ 4)) then (bif inR ((IntKind.wrap .u32 (((IntKind.wrap .u32 (((Int.tmod (Int.tmod (IntKind.wrap .u32 s91.1) 10000) 100)) * 2))) + 1))) k0_.length then (bif inR ((IntKind.wrap .u32 (((Int.tmod (Int.tmod (IntKind.wrap .u32 s91.1) 10000) 100)) * 2))) k0_.length then (bif inR (IntKind.wrap .i64 (s91.2.1 - 1)) x0.toNat then (bif inP 1 (IntKind.wrap .i64 (s91.2.1 - 1)) s91.2.2.length then (bif inR (IntKind.wrap .i64 (s91.2.1 - 2)) x0.toNat then (bif inP 1 (IntKind.wrap .i64 (s91.2.1 - 2)) ((setAt s91.2.2 ((1 : Nat) + (IntKind.wrap .i64 (s91.2.1 - 1)) : Int) ((((k0_.getD ((IntKind.wrap .u32 (((IntKind.wrap .u32 (((Int.tmod (Int.tmod (IntKind.wrap .u32 s91.1) 10000) 100)) * 2))) + 1)) : Int).toNat 0).toNat : Nat) : Int)))).length then (bif inR ((IntKind.wrap .u32 (((IntKind.wrap .u32 (((IntKind.wrap .u32 (Int.tdiv (Int.tmod (IntKind.wrap .u32 s91.1) 10000) 100))) * 2))) + 1))) k0_.length then (bif inR ((IntKind.wrap .u32 (((IntKind.wrap .u32 (Int.tdiv (Int.tmod (IntKind.wrap .u32 s91.1) 10000) 100))) * 2))) k0_.length then (bif inR (IntKind.wrap .i64 (s91.2.1 - 3)) x0.toNat then (bif inP 1 (IntKind.wrap .i64 (s91.2.1 - 3)) ((setAt ((setAt s91.2.2 ((1 : Nat) + (IntKind.wrap .i64 (s91.2.1 - 1)) : Int) ((((k0_.getD ((IntKind.wrap .u32 (((IntKind.wrap .u32 (((Int.tmod (Int.tmod (IntKind.wrap .u32 s91.1) 10000) 100)) * 2))) + 1)) : Int).toNat 0).toNat : Nat) : Int)))) ((1 : Nat) + (IntKind.wrap .i64 (s91.2.1 - 2)) : Int) ((((k0_.getD ((IntKind.wrap .u32 (((Int.tmod (Int.tmod (IntKind.wrap .u32 s91.1) 10000) 100)) * 2)) : Int).toNat 0).toNat : Nat) : Int)))).length then (bif inR (IntKind.wrap .i64 (s91.2.1 - 4)) x0.toNat then (bif inP 1 (IntKind.wrap .i64 (s91.2.1 - 4)) ((setAt ((setAt ((setAt s91.2.2 ((1 : Nat) + (IntKind.wrap .i64 (s91.2.1 - 1)) : Int) ((((k0_.getD ((IntKind.wrap .u32 (((IntKind.wrap .u32 (((Int.tmod (Int.tmod (IntKind.wrap .u32 s91.1) 10000) 100)) * 2))) + 1)) : Int).toNat 0).toNat : Nat) : Int)))) ((1 : Nat) + (IntKind.wrap .i64 (s91.2.1 - 2)) : Int) ((((k0_.getD ((IntKind.wrap .u32 (((Int.tmod (Int.tmod (IntKind.wrap .u32 s91.1) 10000) 100)) * 2)) : Int).toNat 0).toNat : Nat) : Int)))) ((1 : Nat) + (IntKind.wrap .i64 (s91.2.1 - 3)) : Int) ((((k0_.getD ((IntKind.wrap .u32 (((IntKind.wrap .u32 (((IntKind.wrap .u32 (Int.tdiv (Int.tmod (IntKind.wrap .u32 s91.1) 10000) 100))) * 2))) + 1)) : Int).toNat 0).toNat : Nat) : Int)))).length then (some ((IntKind.wrap .i64 (s91.2.1 - 4)), (IntKind.wrap .u32 (Int.tdiv (IntKind.wrap .u32 s91.1) 10000)), (setAt ((setAt ((setAt ((setAt s91.2.2 ((1 : Nat) + (IntKind.wrap .i64 (s91.2.1 - 1)) : Int) ((((k0_.getD ((IntKind.wrap .u32 (((IntKind.wrap .u32 (((Int.tmod (Int.tmod (IntKind.wrap .u32 s91.1) 10000) 100)) * 2))) + 1)) : Int).toNat 0).toNat : Nat) : Int)))) ((1 : Nat) + (IntKind.wrap .i64 (s91.2.1 - 2)) : Int) ((((k0_.getD ((IntKind.wrap .u32 (((Int.tmod (Int.tmod (IntKind.wrap .u32 s91.1) 10000) 100)) * 2)) : Int).toNat 0).toNat : Nat) : Int)))) ((1 : Nat) + (IntKind.wrap .i64 (s91.2.1 - 3)) : Int) ((((k0_.getD ((IntKind.wrap .u32 (((IntKind.wrap .u32 (((IntKind.wrap .u32 (Int.tdiv (Int.tmod (IntKind.wrap .u32 s91.1) 10000) 100))) * 2))) + 1)) : Int).toNat 0).toNat : Nat) : Int)))) ((1 : Nat) + (IntKind.wrap .i64 (s91.2.1 - 4)) : Int) ((((k0_.getD ((IntKind.wrap .u32 (((IntKind.wrap .u32 (Int.tdiv (Int.tmod (IntKind.wrap .u32 s91.1) 10000) 100))) * 2)) : Int).toNat 0).toNat : Nat) : Int))))) else none) else none) else none) else none) else none) else none) else none) else none) else none) else none) else none) else none) else (some (s91.2.1, (IntKind.wrap .u32 s91.1), s91.2.2))) fun (s201 : Int × Int × (List Int)) => (Option.bind (bif (decide (s201.1 ≥ 2)) then (bif inR ((IntKind.wrap .u32 (((IntKind.wrap .u32 ((Int.tmod s201.2.1 100) * 2))) + 1))) k0_.length then (bif inR ((IntKind.wrap .u32 ((Int.tmod s201.2.1 100) * 2))) k0_.length then (bif inR (IntKind.wrap .i64 (s201.1 - 1)) x0.toNat then (bif inP 1 (IntKind.wrap .i64 (s201.1 - 1)) s201.2.2.length then (bif inR (IntKind.wrap .i64 (s201.1 - 2)) x0.toNat then (bif inP 1 (IntKind.wrap .i64 (s201.1 - 2)) ((setAt s201.2.2 ((1 : Nat) + (IntKind.wrap .i64 (s201.1 - 1)) : Int) ((((k0_.getD ((IntKind.wrap .u32 (((IntKind.wrap .u32 ((Int.tmod s201.2.1 100) * 2))) + 1)) : Int).toNat 0).toNat : Nat) : Int)))).length then (some ((IntKind.wrap .i64 (s201.1 - 2)), (IntKind.wrap .u32 (Int.tdiv s201.2.1 100)), (setAt ((setAt s201.2.2 ((1 : Nat) + (IntKind.wrap .i64 (s201.1 - 1)) : Int) ((((k0_.getD ((IntKind.wrap .u32 (((IntKind.wrap .u32 ((Int.tmod s201.2.1 100) * 2))) + 1)) : Int).toNat 0).toNat : Nat) : Int)))) ((1 : Nat) + (IntKind.wrap .i64 (s201.1 - 2)) : Int) ((((k0_.getD ((IntKind.wrap .u32 ((Int.tmod s201.2.1 100) * 2)) : Int).toNat 0).toNat : Nat) : Int))))) else none) else none) else none) else none) else none) else none) else (some (s201.1, s201.2.1, s201.2.2))) fun (s230 : Int × Int × (List Int)) => (bif (decide (s230.1 > 0)) then (bif inR 0 x0.toNat then (bif inP 1 0 s230.2.2.length then (some ((setAt s230.2.2 ((1 : Nat) + 0 : Int) ((IntKind.wrap .u8 (IntKind.wrap .u32 (48 + s230.2.1))))))) else none) else none) else (some s230.2.2)))))
theorem strconv_formatBase10_s0_ok {x0 : Int} {x1 : Int} {x2 : List Int} {r : (List Int)} (h : strconv_formatBase10_s0 x0 x1 x2 = some r) : SC Tryd.prog 46 [.sl 0 1 x0.toNat 1, .int .u64 x1] [.box (x2.flatMap (encI .u8))] (.tup []) [.box (r.flatMap (encI .u8))] := by
 refine kFn (fn := Tryd.f46) (fun F hFn hFH hFD => ?_)
 unfold strconv_formatBase10_s0 at h
 refine kSR ?_
 refine kC 3 [0,1,4] ?_
 refine kEN ?_
 obtain ⟨s91, hy93, h95⟩ := bindS h
 refine K.cutN (by kernel_rfl) (fun (s91 : Int × Int × (List Int)) => ([(0, .sl 0 1 x0.toNat 1), (1, .int .u64 s91.1), (4, .int .i64 s91.2.1)], [.box (s91.2.2.flatMap (encI .u8))])) s91 ?_ ?_
 ·refine K.block 0 (by kernel_rfl) ?_
  refine K.loop (by kernel_rfl) (fun (s96 : Int × Int × (List Int)) => ([(0, .sl 0 1 x0.toNat 1), (1, .int .u64 s96.1), (4, .int .i64 s96.2.1)], [.box (s96.2.2.flatMap (encI .u8))])) hy93 [0, 1, 4] (by kernel_rfl) (by kernel_rfl) (fun s96 x156 hs155 => ?_)
  refine kS ?_
  refine kSR ?_
  refine kC 2 [0,1,4,20] ?_
  refine kEN ?_
  refine J.caseB 20 (b := (decide (s96.2.1 ≥ 8))) (by kernel_rfl) (fun hb157 => ?_) (fun hb157 => ?_)
  ·have h158 := condT hb157 hs155
   refine kT ?_
   refine kK ?_
   refine PJ.next ?_
   refine K.block 1 (by kernel_rfl) ?_
   refine kSR ?_
   refine kC 4 [0,1,4,5] ?_
   refine kEN ?_
   refine kSR ?_
   refine kC 3 [0,1,4,5] ?_
   refine kEN ?_
   refine kSR ?_
   refine RJ.seg 6 [0, 1, 4, 6, 7] (L2 := [(0, .sl 0 1 x0.toNat 1), (1, .int .u64 (IntKind.wrap .u64 (Int.tdiv s96.1 100000000))), (4, .int .i64 s96.2.1), (6, .int .u32 ((IntKind.wrap .u32 (Int.tdiv (IntKind.wrap .u32 (Int.tmod s96.1 100000000)) 10000)))), (7, .int .u32 ((Int.tmod (IntKind.wrap .u32 (Int.tmod s96.1 100000000)) 10000)))]) (H2 := [.box (s96.2.2.flatMap (encI .u8))]) (by kernel_rfl) ?_
   refine kEN ?_
   refine kSR ?_
   refine kC 8 [0,1,4,6,8,9] ?_
   refine kEN ?_
   refine kSR ?_
   refine kC 8 [0,1,4,8,9,10,11] ?_
   refine kEN ?_
   refine kS ?_
   refine J.keep [0, 1, 4, 8, 9, 10, 11] (L2 := [(0, .sl 0 1 x0.toNat 1), (1, .int .u64 (IntKind.wrap .u64 (Int.tdiv s96.1 100000000))), (4, .int .i64 s96.2.1), (8, .int .u32 ((IntKind.wrap .u32 (((IntKind.wrap .u32 (Int.tdiv ((Int.tmod (IntKind.wrap .u32 (Int.tmod s96.1 100000000)) 10000)) 100))) * 2)))), (9, .int .u32 ((IntKind.wrap .u32 (((Int.tmod ((Int.tmod (IntKind.wrap .u32 (Int.tmod s96.1 100000000)) 10000)) 100)) * 2)))), (10, .int .u32 ((IntKind.wrap .u32 (((IntKind.wrap .u32 (Int.tdiv ((IntKind.wrap .u32 (Int.tdiv (IntKind.wrap .u32 (Int.tmod s96.1 100000000)) 10000))) 100))) * 2)))), (11, .int .u32 ((IntKind.wrap .u32 (((Int.tmod ((IntKind.wrap .u32 (Int.tdiv (IntKind.wrap .u32 (Int.tmod s96.1 100000000)) 10000))) 100)) * 2))))]) (by kernel_rfl) ?_
   refine K.draw (by kernel_rfl) (by kernel_rfl) (by kernel_rfl) (H2 := [.box (s96.2.2.flatMap (encI .u8))]) (by kernel_rfl) (n := 1) (by kernel_rfl) ?_
   refine kD 8 ?_
   obtain ⟨hm, h160⟩ := asrt h158
   refine RJ.rel (d := (some 50)) (ef := ⟨.int .u8 (((k0_.getD ((IntKind.wrap .u32 (((IntKind.wrap .u32 (((Int.tmod ((Int.tmod (IntKind.wrap .u32 (Int.tmod s96.1 100000000)) 10000)) 100)) * 2))) + 1)) : Int).toNat 0).toNat : Nat) : Int), [], []⟩) (ef' := ⟨.int .u8 (((k0_.getD ((IntKind.wrap .u32 (((IntKind.wrap .u32 (((Int.tmod ((Int.tmod (IntKind.wrap .u32 (Int.tmod s96.1 100000000)) 10000)) 100)) * 2))) + 1)) : Int).toNat 0).toNat : Nat) : Int), [], []⟩) (c := inR ((IntKind.wrap .u32 (((IntKind.wrap .u32 (((Int.tmod ((Int.tmod (IntKind.wrap .u32 (Int.tmod s96.1 100000000)) 10000)) 100)) * 2))) + 1))) k0_.length) (tr2 := [([], []), ([], []), ([], []), ([], []), ([], []), ([], []), ([], []), ([], []), ([], [])]) (H2 := [.box (s96.2.2.flatMap (encI .u8))]) (by kernel_rfl) hm (fun hc => rfl) (by kernel_rfl) ?_
   refine RJ.segD 1 (tr2 := [([], []), ([], []), ([], []), ([], []), ([], []), ([], []), ([], []), ([], []), ([], []), ([], [])]) (L2 := [(51, .int .u32 ((IntKind.wrap .u32 (((Int.tmod ((Int.tmod (IntKind.wrap .u32 (Int.tmod s96.1 100000000)) 10000)) 100)) * 2)))), (50, .int .u8 ((((k0_.getD ((IntKind.wrap .u32 (((IntKind.wrap .u32 (((Int.tmod ((Int.tmod (IntKind.wrap .u32 (Int.tmod s96.1 100000000)) 10000)) 100)) * 2))) + 1)) : Int).toNat 0).toNat : Nat) : Int))), (49, .int .u32 ((IntKind.wrap .u32 (((IntKind.wrap .u32 (((Int.tmod ((Int.tmod (IntKind.wrap .u32 (Int.tmod s96.1 100000000)) 10000)) 100)) * 2))) + 1)))), (48, .int .u32 ((IntKind.wrap .u32 (((Int.tmod ((Int.tmod (IntKind.wrap .u32 (Int.tmod s96.1 100000000)) 10000)) 100)) * 2)))), (47, .int .i64 (IntKind.wrap .i64 (s96.2.1 - 2))), (46, .int .i64 s96.2.1), (45, .sl 0 1 x0.toNat 1), (44, .int .i64 (IntKind.wrap .i64 (s96.2.1 - 1))), (43, .int .i64 s96.2.1), (42, .sl 0 1 x0.toNat 1), (0, .sl 0 1 x0.toNat 1), (1, .int .u64 (IntKind.wrap .u64 (Int.tdiv s96.1 100000000))), (4, .int .i64 s96.2.1), (8, .int .u32 ((IntKind.wrap .u32 (((IntKind.wrap .u32 (Int.tdiv ((Int.tmod (IntKind.wrap .u32 (Int.tmod s96.1 100000000)) 10000)) 100))) * 2)))), (9, .int .u32 ((IntKind.wrap .u32 (((Int.tmod ((Int.tmod (IntKind.wrap .u32 (Int.tmod s96.1 100000000)) 10000)) 100)) * 2)))), (10, .int .u32 ((IntKind.wrap .u32 (((IntKind.wrap .u32 (Int.tdiv ((IntKind.wrap .u32 (Int.tdiv (IntKind.wrap .u32 (Int.tmod s96.1 100000000)) 10000))) 100))) * 2)))), (11, .int .u32 ((IntKind.wrap .u32 (((Int.tmod ((IntKind.wrap .u32 (Int.tdiv (IntKind.wrap .u32 (Int.tmod s96.1 100000000)) 10000))) 100)) * 2))))]) (H2 := [.box (s96.2.2.flatMap (encI .u8))]) (by kernel_rfl) ?_
   obtain ⟨hm, h161⟩ := asrt h160
   refine RJ.rel (d := (some 52)) (ef := ⟨.int .u8 (((k0_.getD ((IntKind.wrap .u32 (((Int.tmod ((Int.tmod (IntKind.wrap .u32 (Int.tmod s96.1 100000000)) 10000)) 100)) * 2)) : Int).toNat 0).toNat : Nat) : Int), [], []⟩) (ef' := ⟨.int .u8 (((k0_.getD ((IntKind.wrap .u32 (((Int.tmod ((Int.tmod (IntKind.wrap .u32 (Int.tmod s96.1 100000000)) 10000)) 100)) * 2)) : Int).toNat 0).toNat : Nat) : Int), [], []⟩) (c := inR ((IntKind.wrap .u32 (((Int.tmod ((Int.tmod (IntKind.wrap .u32 (Int.tmod s96.1 100000000)) 10000)) 100)) * 2))) k0_.length) (tr2 := [([], []), ([], []), ([], []), ([], []), ([], []), ([], []), ([], []), ([], []), ([], []), ([], []), ([], [])]) (H2 := [.box (s96.2.2.flatMap (encI .u8))]) (by kernel_rfl) hm (fun hc => rfl) (by kernel_rfl) ?_
   obtain ⟨hm, h162⟩ := asrt h161
   refine RJ.rel (d := (some 53)) (ef := ⟨.ptr 0 (1 + ((IntKind.wrap .i64 (s96.2.1 - 1)) : Int).toNat * 1), [], []⟩) (ef' := ⟨.ptr 0 (1 + ((IntKind.wrap .i64 (s96.2.1 - 1)) : Int).toNat * 1), [], []⟩) (c := inR (IntKind.wrap .i64 (s96.2.1 - 1)) x0.toNat) (tr2 := [([], []), ([], []), ([], []), ([], []), ([], []), ([], []), ([], []), ([], []), ([], []), ([], []), ([], []), ([], [])]) (H2 := [.box (s96.2.2.flatMap (encI .u8))]) (by kernel_rfl) hm (fun hc => rfl) (by kernel_rfl) ?_
   obtain ⟨hm, h163⟩ := asrt h162
   refine RJ.relS (d := none) (ef := ⟨.undef, [0], [(0, .box (splice (s96.2.2.flatMap (encI .u8)) (1 * 1 + ((IntKind.wrap .i64 (s96.2.1 - 1)) : Int).toNat * 1) ((encI .u8) ((((k0_.getD ((IntKind.wrap .u32 (((IntKind.wrap .u32 (((Int.tmod ((Int.tmod (IntKind.wrap .u32 (Int.tmod s96.1 100000000)) 10000)) 100)) * 2))) + 1)) : Int).toNat 0).toNat : Nat) : Int)))))]⟩) (ef' := ⟨.undef, [0], [(0, .box ((setAt s96.2.2 ((1 : Nat) + (IntKind.wrap .i64 (s96.2.1 - 1)) : Int) ((((k0_.getD ((IntKind.wrap .u32 (((IntKind.wrap .u32 (((Int.tmod ((Int.tmod (IntKind.wrap .u32 (Int.tmod s96.1 100000000)) 10000)) 100)) * 2))) + 1)) : Int).toNat 0).toNat : Nat) : Int))).flatMap (encI .u8)))]⟩) (c := Nat.ble (1 * 1 + ((IntKind.wrap .i64 (s96.2.1 - 1)) : Int).toNat * 1 + ((encI .u8) ((((k0_.getD ((IntKind.wrap .u32 (((IntKind.wrap .u32 (((Int.tmod ((Int.tmod (IntKind.wrap .u32 (Int.tmod s96.1 100000000)) 10000)) 100)) * 2))) + 1)) : Int).toNat 0).toNat : Nat) : Int))).length) (s96.2.2.flatMap (encI .u8)).length) (tr2 := [([], []), ([], []), ([], []), ([], []), ([], []), ([], []), ([], []), ([], []), ([], []), ([], []), ([], []), ([], []), ([0, 1], [0])]) (H2 := [.box (((setAt s96.2.2 ((1 : Nat) + (IntKind.wrap .i64 (s96.2.1 - 1)) : Int) ((((k0_.getD ((IntKind.wrap .u32 (((IntKind.wrap .u32 (((Int.tmod ((Int.tmod (IntKind.wrap .u32 (Int.tmod s96.1 100000000)) 10000)) 100)) * 2))) + 1)) : Int).toNat 0).toNat : Nat) : Int)))).flatMap (encI .u8))]) (by kernel_rfl) (storeB_ok (encI_len .u8) hm) (fun hc => N.storeB (o := 1) (encI_len .u8) hm) (by kernel_rfl) ?_
   obtain ⟨hm, h164⟩ := asrt h163
   refine RJ.rel (d := (some 54)) (ef := ⟨.ptr 0 (1 + ((IntKind.wrap .i64 (s96.2.1 - 2)) : Int).toNat * 1), [], []⟩) (ef' := ⟨.ptr 0 (1 + ((IntKind.wrap .i64 (s96.2.1 - 2)) : Int).toNat * 1), [], []⟩) (c := inR (IntKind.wrap .i64 (s96.2.1 - 2)) x0.toNat) (tr2 := [([], []), ([], []), ([], []), ([], []), ([], []), ([], []), ([], []), ([], []), ([], []), ([], []), ([], []), ([], []), ([0, 1], [0]), ([], [])]) (H2 := [.box (((setAt s96.2.2 ((1 : Nat) + (IntKind.wrap .i64 (s96.2.1 - 1)) : Int) ((((k0_.getD ((IntKind.wrap .u32 (((IntKind.wrap .u32 (((Int.tmod ((Int.tmod (IntKind.wrap .u32 (Int.tmod s96.1 100000000)) 10000)) 100)) * 2))) + 1)) : Int).toNat 0).toNat : Nat) : Int)))).flatMap (encI .u8))]) (by kernel_rfl) hm (fun hc => rfl) (by kernel_rfl) ?_
   obtain ⟨hm, h165⟩ := asrt h164
   refine RJ.relS (d := none) (ef := ⟨.undef, [0], [(0, .box (splice (((setAt s96.2.2 ((1 : Nat) + (IntKind.wrap .i64 (s96.2.1 - 1)) : Int) ((((k0_.getD ((IntKind.wrap .u32 (((IntKind.wrap .u32 (((Int.tmod ((Int.tmod (IntKind.wrap .u32 (Int.tmod s96.1 100000000)) 10000)) 100)) * 2))) + 1)) : Int).toNat 0).toNat : Nat) : Int)))).flatMap (encI .u8)) (1 * 1 + ((IntKind.wrap .i64 (s96.2.1 - 2)) : Int).toNat * 1) ((encI .u8) ((((k0_.getD ((IntKind.wrap .u32 (((Int.tmod ((Int.tmod (IntKind.wrap .u32 (Int.tmod s96.1 100000000)) 10000)) 100)) * 2)) : Int).toNat 0).toNat : Nat) : Int)))))]⟩) (ef' := ⟨.undef, [0], [(0, .box ((setAt ((setAt s96.2.2 ((1 : Nat) + (IntKind.wrap .i64 (s96.2.1 - 1)) : Int) ((((k0_.getD ((IntKind.wrap .u32 (((IntKind.wrap .u32 (((Int.tmod ((Int.tmod (IntKind.wrap .u32 (Int.tmod s96.1 100000000)) 10000)) 100)) * 2))) + 1)) : Int).toNat 0).toNat : Nat) : Int)))) ((1 : Nat) + (IntKind.wrap .i64 (s96.2.1 - 2)) : Int) ((((k0_.getD ((IntKind.wrap .u32 (((Int.tmod ((Int.tmod (IntKind.wrap .u32 (Int.tmod s96.1 100000000)) 10000)) 100)) * 2)) : Int).toNat 0).toNat : Nat) : Int))).flatMap (encI .u8)))]⟩) (c := Nat.ble (1 * 1 + ((IntKind.wrap .i64 (s96.2.1 - 2)) : Int).toNat * 1 + ((encI .u8) ((((k0_.getD ((IntKind.wrap .u32 (((Int.tmod ((Int.tmod (IntKind.wrap .u32 (Int.tmod s96.1 100000000)) 10000)) 100)) * 2)) : Int).toNat 0).toNat : Nat) : Int))).length) (((setAt s96.2.2 ((1 : Nat) + (IntKind.wrap .i64 (s96.2.1 - 1)) : Int) ((((k0_.getD ((IntKind.wrap .u32 (((IntKind.wrap .u32 (((Int.tmod ((Int.tmod (IntKind.wrap .u32 (Int.tmod s96.1 100000000)) 10000)) 100)) * 2))) + 1)) : Int).toNat 0).toNat : Nat) : Int)))).flatMap (encI .u8)).length) (tr2 := [([], []), ([], []), ([], []), ([], []), ([], []), ([], []), ([], []), ([], []), ([], []), ([], []), ([], []), ([], []), ([0, 1], [0]), ([], []), ([0, 1], [0])]) (H2 := [.box (((setAt ((setAt s96.2.2 ((1 : Nat) + (IntKind.wrap .i64 (s96.2.1 - 1)) : Int) ((((k0_.getD ((IntKind.wrap .u32 (((IntKind.wrap .u32 (((Int.tmod ((Int.tmod (IntKind.wrap .u32 (Int.tmod s96.1 100000000)) 10000)) 100)) * 2))) + 1)) : Int).toNat 0).toNat : Nat) : Int)))) ((1 : Nat) + (IntKind.wrap .i64 (s96.2.1 - 2)) : Int) ((((k0_.getD ((IntKind.wrap .u32 (((Int.tmod ((Int.tmod (IntKind.wrap .u32 (Int.tmod s96.1 100000000)) 10000)) 100)) * 2)) : Int).toNat 0).toNat : Nat) : Int)))).flatMap (encI .u8))]) (by kernel_rfl) (storeB_ok (encI_len .u8) hm) (fun hc => N.storeB (o := 1) (encI_len .u8) hm) (by kernel_rfl) ?_
   refine kEN ?_
   refine kS ?_
   refine J.keep [0, 1, 4, 8, 10, 11] (L2 := [(0, .sl 0 1 x0.toNat 1), (1, .int .u64 (IntKind.wrap .u64 (Int.tdiv s96.1 100000000))), (4, .int .i64 s96.2.1), (8, .int .u32 ((IntKind.wrap .u32 (((IntKind.wrap .u32 (Int.tdiv ((Int.tmod (IntKind.wrap .u32 (Int.tmod s96.1 100000000)) 10000)) 100))) * 2)))), (10, .int .u32 ((IntKind.wrap .u32 (((IntKind.wrap .u32 (Int.tdiv ((IntKind.wrap .u32 (Int.tdiv (IntKind.wrap .u32 (Int.tmod s96.1 100000000)) 10000))) 100))) * 2)))), (11, .int .u32 ((IntKind.wrap .u32 (((Int.tmod ((IntKind.wrap .u32 (Int.tdiv (IntKind.wrap .u32 (Int.tmod s96.1 100000000)) 10000))) 100)) * 2))))]) (by kernel_rfl) ?_
   refine K.draw (by kernel_rfl) (by kernel_rfl) (by kernel_rfl) (H2 := [.box (((setAt ((setAt s96.2.2 ((1 : Nat) + (IntKind.wrap .i64 (s96.2.1 - 1)) : Int) ((((k0_.getD ((IntKind.wrap .u32 (((IntKind.wrap .u32 (((Int.tmod ((Int.tmod (IntKind.wrap .u32 (Int.tmod s96.1 100000000)) 10000)) 100)) * 2))) + 1)) : Int).toNat 0).toNat : Nat) : Int)))) ((1 : Nat) + (IntKind.wrap .i64 (s96.2.1 - 2)) : Int) ((((k0_.getD ((IntKind.wrap .u32 (((Int.tmod ((Int.tmod (IntKind.wrap .u32 (Int.tmod s96.1 100000000)) 10000)) 100)) * 2)) : Int).toNat 0).toNat : Nat) : Int)))).flatMap (encI .u8))]) (by kernel_rfl) (n := 1) (by kernel_rfl) ?_
   refine kD 8 ?_
   obtain ⟨hm, h166⟩ := asrt h165
   refine RJ.rel (d := (some 63)) (ef := ⟨.int .u8 (((k0_.getD ((IntKind.wrap .u32 (((IntKind.wrap .u32 (((IntKind.wrap .u32 (Int.tdiv ((Int.tmod (IntKind.wrap .u32 (Int.tmod s96.1 100000000)) 10000)) 100))) * 2))) + 1)) : Int).toNat 0).toNat : Nat) : Int), [], []⟩) (ef' := ⟨.int .u8 (((k0_.getD ((IntKind.wrap .u32 (((IntKind.wrap .u32 (((IntKind.wrap .u32 (Int.tdiv ((Int.tmod (IntKind.wrap .u32 (Int.tmod s96.1 100000000)) 10000)) 100))) * 2))) + 1)) : Int).toNat 0).toNat : Nat) : Int), [], []⟩) (c := inR ((IntKind.wrap .u32 (((IntKind.wrap .u32 (((IntKind.wrap .u32 (Int.tdiv ((Int.tmod (IntKind.wrap .u32 (Int.tmod s96.1 100000000)) 10000)) 100))) * 2))) + 1))) k0_.length) (tr2 := [([], []), ([], []), ([], []), ([], []), ([], []), ([], []), ([], []), ([], []), ([], [])]) (H2 := [.box (((setAt ((setAt s96.2.2 ((1 : Nat) + (IntKind.wrap .i64 (s96.2.1 - 1)) : Int) ((((k0_.getD ((IntKind.wrap .u32 (((IntKind.wrap .u32 (((Int.tmod ((Int.tmod (IntKind.wrap .u32 (Int.tmod s96.1 100000000)) 10000)) 100)) * 2))) + 1)) : Int).toNat 0).toNat : Nat) : Int)))) ((1 : Nat) + (IntKind.wrap .i64 (s96.2.1 - 2)) : Int) ((((k0_.getD ((IntKind.wrap .u32 (((Int.tmod ((Int.tmod (IntKind.wrap .u32 (Int.tmod s96.1 100000000)) 10000)) 100)) * 2)) : Int).toNat 0).toNat : Nat) : Int)))).flatMap (encI .u8))]) (by kernel_rfl) hm (fun hc => rfl) (by kernel_rfl) ?_
   refine kD 1 ?_
   obtain ⟨hm, h167⟩ := asrt h166
   refine RJ.rel (d := (some 65)) (ef := ⟨.int .u8 (((k0_.getD ((IntKind.wrap .u32 (((IntKind.wrap .u32 (Int.tdiv ((Int.tmod (IntKind.wrap .u32 (Int.tmod s96.1 100000000)) 10000)) 100))) * 2)) : Int).toNat 0).toNat : Nat) : Int), [], []⟩) (ef' := ⟨.int .u8 (((k0_.getD ((IntKind.wrap .u32 (((IntKind.wrap .u32 (Int.tdiv ((Int.tmod (IntKind.wrap .u32 (Int.tmod s96.1 100000000)) 10000)) 100))) * 2)) : Int).toNat 0).toNat : Nat) : Int), [], []⟩) (c := inR ((IntKind.wrap .u32 (((IntKind.wrap .u32 (Int.tdiv ((Int.tmod (IntKind.wrap .u32 (Int.tmod s96.1 100000000)) 10000)) 100))) * 2))) k0_.length) (tr2 := [([], []), ([], []), ([], []), ([], []), ([], []), ([], []), ([], []), ([], []), ([], []), ([], []), ([], [])]) (H2 := [.box (((setAt ((setAt s96.2.2 ((1 : Nat) + (IntKind.wrap .i64 (s96.2.1 - 1)) : Int) ((((k0_.getD ((IntKind.wrap .u32 (((IntKind.wrap .u32 (((Int.tmod ((Int.tmod (IntKind.wrap .u32 (Int.tmod s96.1 100000000)) 10000)) 100)) * 2))) + 1)) : Int).toNat 0).toNat : Nat) : Int)))) ((1 : Nat) + (IntKind.wrap .i64 (s96.2.1 - 2)) : Int) ((((k0_.getD ((IntKind.wrap .u32 (((Int.tmod ((Int.tmod (IntKind.wrap .u32 (Int.tmod s96.1 100000000)) 10000)) 100)) * 2)) : Int).toNat 0).toNat : Nat) : Int)))).flatMap (encI .u8))]) (by kernel_rfl) hm (fun hc => rfl) (by kernel_rfl) ?_
   obtain ⟨hm, h168⟩ := asrt h167
   refine RJ.rel (d := (some 66)) (ef := ⟨.ptr 0 (1 + ((IntKind.wrap .i64 (s96.2.1 - 3)) : Int).toNat * 1), [], []⟩) (ef' := ⟨.ptr 0 (1 + ((IntKind.wrap .i64 (s96.2.1 - 3)) : Int).toNat * 1), [], []⟩) (c := inR (IntKind.wrap .i64 (s96.2.1 - 3)) x0.toNat) (tr2 := [([], []), ([], []), ([], []), ([], []), ([], []), ([], []), ([], []), ([], []), ([], []), ([], []), ([], []), ([], [])]) (H2 := [.box (((setAt ((setAt s96.2.2 ((1 : Nat) + (IntKind.wrap .i64 (s96.2.1 - 1)) : Int) ((((k0_.getD ((IntKind.wrap .u32 (((IntKind.wrap .u32 (((Int.tmod ((Int.tmod (IntKind.wrap .u32 (Int.tmod s96.1 100000000)) 10000)) 100)) * 2))) + 1)) : Int).toNat 0).toNat : Nat) : Int)))) ((1 : Nat) + (IntKind.wrap .i64 (s96.2.1 - 2)) : Int) ((((k0_.getD ((IntKind.wrap .u32 (((Int.tmod ((Int.tmod (IntKind.wrap .u32 (Int.tmod s96.1 100000000)) 10000)) 100)) * 2)) : Int).toNat 0).toNat : Nat) : Int)))).flatMap (encI .u8))]) (by kernel_rfl) hm (fun hc => rfl) (by kernel_rfl) ?_
   obtain ⟨hm, h169⟩ := asrt h168
   refine RJ.relS (d := none) (ef := ⟨.undef, [0], [(0, .box (splice (((setAt ((setAt s96.2.2 ((1 : Nat) + (IntKind.wrap .i64 (s96.2.1 - 1)) : Int) ((((k0_.getD ((IntKind.wrap .u32 (((IntKind.wrap .u32 (((Int.tmod ((Int.tmod (IntKind.wrap .u32 (Int.tmod s96.1 100000000)) 10000)) 100)) * 2))) + 1)) : Int).toNat 0).toNat : Nat) : Int)))) ((1 : Nat) + (IntKind.wrap .i64 (s96.2.1 - 2)) : Int) ((((k0_.getD ((IntKind.wrap .u32 (((Int.tmod ((Int.tmod (IntKind.wrap .u32 (Int.tmod s96.1 100000000)) 10000)) 100)) * 2)) : Int).toNat 0).toNat : Nat) : Int)))).flatMap (encI .u8)) (1 * 1 + ((IntKind.wrap .i64 (s96.2.1 - 3)) : Int).toNat * 1) ((encI .u8) ((((k0_.getD ((IntKind.wrap .u32 (((IntKind.wrap .u32 (((IntKind.wrap .u32 (Int.tdiv ((Int.tmod (IntKind.wrap .u32 (Int.tmod s96.1 100000000)) 10000)) 100))) * 2))) + 1)) : Int).toNat 0).toNat : Nat) : Int)))))]⟩) (ef' := ⟨.undef, [0], [(0, .box ((setAt ((setAt ((setAt s96.2.2 ((1 : Nat) + (IntKind.wrap .i64 (s96.2.1 - 1)) : Int) ((((k0_.getD ((IntKind.wrap .u32 (((IntKind.wrap .u32 (((Int.tmod ((Int.tmod (IntKind.wrap .u32 (Int.tmod s96.1 100000000)) 10000)) 100)) * 2))) + 1)) : Int).toNat 0).toNat : Nat) : Int)))) ((1 : Nat) + (IntKind.wrap .i64 (s96.2.1 - 2)) : Int) ((((k0_.getD ((IntKind.wrap .u32 (((Int.tmod ((Int.tmod (IntKind.wrap .u32 (Int.tmod s96.1 100000000)) 10000)) 100)) * 2)) : Int).toNat 0).toNat : Nat) : Int)))) ((1 : Nat) + (IntKind.wrap .i64 (s96.2.1 - 3)) : Int) ((((k0_.getD ((IntKind.wrap .u32 (((IntKind.wrap .u32 (((IntKind.wrap .u32 (Int.tdiv ((Int.tmod (IntKind.wrap .u32 (Int.tmod s96.1 100000000)) 10000)) 100))) * 2))) + 1)) : Int).toNat 0).toNat : Nat) : Int))).flatMap (encI .u8)))]⟩) (c := Nat.ble (1 * 1 + ((IntKind.wrap .i64 (s96.2.1 - 3)) : Int).toNat * 1 + ((encI .u8) ((((k0_.getD ((IntKind.wrap .u32 (((IntKind.wrap .u32 (((IntKind.wrap .u32 (Int.tdiv ((Int.tmod (IntKind.wrap .u32 (Int.tmod s96.1 100000000)) 10000)) 100))) * 2))) + 1)) : Int).toNat 0).toNat : Nat) : Int))).length) (((setAt ((setAt s96.2.2 ((1 : Nat) + (IntKind.wrap .i64 (s96.2.1 - 1)) : Int) ((((k0_.getD ((IntKind.wrap .u32 (((IntKind.wrap .u32 (((Int.tmod ((Int.tmod (IntKind.wrap .u32 (Int.tmod s96.1 100000000)) 10000)) 100)) * 2))) + 1)) : Int).toNat 0).toNat : Nat) : Int)))) ((1 : Nat) + (IntKind.wrap .i64 (s96.2.1 - 2)) : Int) ((((k0_.getD ((IntKind.wrap .u32 (((Int.tmod ((Int.tmod (IntKind.wrap .u32 (Int.tmod s96.1 100000000)) 10000)) 100)) * 2)) : Int).toNat 0).toNat : Nat) : Int)))).flatMap (encI .u8)).length) (tr2 := [([], []), ([], []), ([], []), ([], []), ([], []), ([], []), ([], []), ([], []), ([], []), ([], []), ([], []), ([], []), ([0, 1], [0])]) (H2 := [.box (((setAt ((setAt ((setAt s96.2.2 ((1 : Nat) + (IntKind.wrap .i64 (s96.2.1 - 1)) : Int) ((((k0_.getD ((IntKind.wrap .u32 (((IntKind.wrap .u32 (((Int.tmod ((Int.tmod (IntKind.wrap .u32 (Int.tmod s96.1 100000000)) 10000)) 100)) * 2))) + 1)) : Int).toNat 0).toNat : Nat) : Int)))) ((1 : Nat) + (IntKind.wrap .i64 (s96.2.1 - 2)) : Int) ((((k0_.getD ((IntKind.wrap .u32 (((Int.tmod ((Int.tmod (IntKind.wrap .u32 (Int.tmod s96.1 100000000)) 10000)) 100)) * 2)) : Int).toNat 0).toNat : Nat) : Int)))) ((1 : Nat) + (IntKind.wrap .i64 (s96.2.1 - 3)) : Int) ((((k0_.getD ((IntKind.wrap .u32 (((IntKind.wrap .u32 (((IntKind.wrap .u32 (Int.tdiv ((Int.tmod (IntKind.wrap .u32 (Int.tmod s96.1 100000000)) 10000)) 100))) * 2))) + 1)) : Int).toNat 0).toNat : Nat) : Int)))).flatMap (encI .u8))]) (by kernel_rfl) (storeB_ok (encI_len .u8) hm) (fun hc => N.storeB (o := 1) (encI_len .u8) hm) (by kernel_rfl) ?_
   obtain ⟨hm, h170⟩ := asrt h169
   refine RJ.rel (d := (some 67)) (ef := ⟨.ptr 0 (1 + ((IntKind.wrap .i64 (s96.2.1 - 4)) : Int).toNat * 1), [], []⟩) (ef' := ⟨.ptr 0 (1 + ((IntKind.wrap .i64 (s96.2.1 - 4)) : Int).toNat * 1), [], []⟩) (c := inR (IntKind.wrap .i64 (s96.2.1 - 4)) x0.toNat) (tr2 := [([], []), ([], []), ([], []), ([], []), ([], []), ([], []), ([], []), ([], []), ([], []), ([], []), ([], []), ([], []), ([0, 1], [0]), ([], [])]) (H2 := [.box (((setAt ((setAt ((setAt s96.2.2 ((1 : Nat) + (IntKind.wrap .i64 (s96.2.1 - 1)) : Int) ((((k0_.getD ((IntKind.wrap .u32 (((IntKind.wrap .u32 (((Int.tmod ((Int.tmod (IntKind.wrap .u32 (Int.tmod s96.1 100000000)) 10000)) 100)) * 2))) + 1)) : Int).toNat 0).toNat : Nat) : Int)))) ((1 : Nat) + (IntKind.wrap .i64 (s96.2.1 - 2)) : Int) ((((k0_.getD ((IntKind.wrap .u32 (((Int.tmod ((Int.tmod (IntKind.wrap .u32 (Int.tmod s96.1 100000000)) 10000)) 100)) * 2)) : Int).toNat 0).toNat : Nat) : Int)))) ((1 : Nat) + (IntKind.wrap .i64 (s96.2.1 - 3)) : Int) ((((k0_.getD ((IntKind.wrap .u32 (((IntKind.wrap .u32 (((IntKind.wrap .u32 (Int.tdiv ((Int.tmod (IntKind.wrap .u32 (Int.tmod s96.1 100000000)) 10000)) 100))) * 2))) + 1)) : Int).toNat 0).toNat : Nat) : Int)))).flatMap (encI .u8))]) (by kernel_rfl) hm (fun hc => rfl) (by kernel_rfl) ?_
   obtain ⟨hm, h171⟩ := asrt h170
   refine RJ.relS (d := none) (ef := ⟨.undef, [0], [(0, .box (splice (((setAt ((setAt ((setAt s96.2.2 ((1 : Nat) + (IntKind.wrap .i64 (s96.2.1 - 1)) : Int) ((((k0_.getD ((IntKind.wrap .u32 (((IntKind.wrap .u32 (((Int.tmod ((Int.tmod (IntKind.wrap .u32 (Int.tmod s96.1 100000000)) 10000)) 100)) * 2))) + 1)) : Int).toNat 0).toNat : Nat) : Int)))) ((1 : Nat) + (IntKind.wrap .i64 (s96.2.1 - 2)) : Int) ((((k0_.getD ((IntKind.wrap .u32 (((Int.tmod ((Int.tmod (IntKind.wrap .u32 (Int.tmod s96.1 100000000)) 10000)) 100)) * 2)) : Int).toNat 0).toNat : Nat) : Int)))) ((1 : Nat) + (IntKind.wrap .i64 (s96.2.1 - 3)) : Int) ((((k0_.getD ((IntKind.wrap .u32 (((IntKind.wrap .u32 (((IntKind.wrap .u32 (Int.tdiv ((Int.tmod (IntKind.wrap .u32 (Int.tmod s96.1 100000000)) 10000)) 100))) * 2))) + 1)) : Int).toNat 0).toNat : Nat) : Int)))).flatMap (encI .u8)) (1 * 1 + ((IntKind.wrap .i64 (s96.2.1 - 4)) : Int).toNat * 1) ((encI .u8) ((((k0_.getD ((IntKind.wrap .u32 (((IntKind.wrap .u32 (Int.tdiv ((Int.tmod (IntKind.wrap .u32 (Int.tmod s96.1 100000000)) 10000)) 100))) * 2)) : Int).toNat 0).toNat : Nat) : Int)))))]⟩) (ef' := ⟨.undef, [0], [(0, .box ((setAt ((setAt ((setAt ((setAt s96.2.2 ((1 : Nat) + (IntKind.wrap .i64 (s96.2.1 - 1)) : Int) ((((k0_.getD ((IntKind.wrap .u32 (((IntKind.wrap .u32 (((Int.tmod ((Int.tmod (IntKind.wrap .u32 (Int.tmod s96.1 100000000)) 10000)) 100)) * 2))) + 1)) : Int).toNat 0).toNat : Nat) : Int)))) ((1 : Nat) + (IntKind.wrap .i64 (s96.2.1 - 2)) : Int) ((((k0_.getD ((IntKind.wrap .u32 (((Int.tmod ((Int.tmod (IntKind.wrap .u32 (Int.tmod s96.1 100000000)) 10000)) 100)) * 2)) : Int).toNat 0).toNat : Nat) : Int)))) ((1 : Nat) + (IntKind.wrap .i64 (s96.2.1 - 3)) : Int) ((((k0_.getD ((IntKind.wrap .u32 (((IntKind.wrap .u32 (((IntKind.wrap .u32 (Int.tdiv ((Int.tmod (IntKind.wrap .u32 (Int.tmod s96.1 100000000)) 10000)) 100))) * 2))) + 1)) : Int).toNat 0).toNat : Nat) : Int)))) ((1 : Nat) + (IntKind.wrap .i64 (s96.2.1 - 4)) : Int) ((((k0_.getD ((IntKind.wrap .u32 (((IntKind.wrap .u32 (Int.tdiv ((Int.tmod (IntKind.wrap .u32 (Int.tmod s96.1 100000000)) 10000)) 100))) * 2)) : Int).toNat 0).toNat : Nat) : Int))).flatMap (encI .u8)))]⟩) (c := Nat.ble (1 * 1 + ((IntKind.wrap .i64 (s96.2.1 - 4)) : Int).toNat * 1 + ((encI .u8) ((((k0_.getD ((IntKind.wrap .u32 (((IntKind.wrap .u32 (Int.tdiv ((Int.tmod (IntKind.wrap .u32 (Int.tmod s96.1 100000000)) 10000)) 100))) * 2)) : Int).toNat 0).toNat : Nat) : Int))).length) (((setAt ((setAt ((setAt s96.2.2 ((1 : Nat) + (IntKind.wrap .i64 (s96.2.1 - 1)) : Int) ((((k0_.getD ((IntKind.wrap .u32 (((IntKind.wrap .u32 (((Int.tmod ((Int.tmod (IntKind.wrap .u32 (Int.tmod s96.1 100000000)) 10000)) 100)) * 2))) + 1)) : Int).toNat 0).toNat : Nat) : Int)))) ((1 : Nat) + (IntKind.wrap .i64 (s96.2.1 - 2)) : Int) ((((k0_.getD ((IntKind.wrap .u32 (((Int.tmod ((Int.tmod (IntKind.wrap .u32 (Int.tmod s96.1 100000000)) 10000)) 100)) * 2)) : Int).toNat 0).toNat : Nat) : Int)))) ((1 : Nat) + (IntKind.wrap .i64 (s96.2.1 - 3)) : Int) ((((k0_.getD ((IntKind.wrap .u32 (((IntKind.wrap .u32 (((IntKind.wrap .u32 (Int.tdiv ((Int.tmod (IntKind.wrap .u32 (Int.tmod s96.1 100000000)) 10000)) 100))) * 2))) + 1)) : Int).toNat 0).toNat : Nat) : Int)))).flatMap (encI .u8)).length) (tr2 := [([], []), ([], []), ([], []), ([], []), ([], []), ([], []), ([], []), ([], []), ([], []), ([], []), ([], []), ([], []), ([0, 1], [0]), ([], []), ([0, 1], [0])]) (H2 := [.box (((setAt ((setAt ((setAt ((setAt s96.2.2 ((1 : Nat) + (IntKind.wrap .i64 (s96.2.1 - 1)) : Int) ((((k0_.getD ((IntKind.wrap .u32 (((IntKind.wrap .u32 (((Int.tmod ((Int.tmod (IntKind.wrap .u32 (Int.tmod s96.1 100000000)) 10000)) 100)) * 2))) + 1)) : Int).toNat 0).toNat : Nat) : Int)))) ((1 : Nat) + (IntKind.wrap .i64 (s96.2.1 - 2)) : Int) ((((k0_.getD ((IntKind.wrap .u32 (((Int.tmod ((Int.tmod (IntKind.wrap .u32 (Int.tmod s96.1 100000000)) 10000)) 100)) * 2)) : Int).toNat 0).toNat : Nat) : Int)))) ((1 : Nat) + (IntKind.wrap .i64 (s96.2.1 - 3)) : Int) ((((k0_.getD ((IntKind.wrap .u32 (((IntKind.wrap .u32 (((IntKind.wrap .u32 (Int.tdiv ((Int.tmod (IntKind.wrap .u32 (Int.tmod s96.1 100000000)) 10000)) 100))) * 2))) + 1)) : Int).toNat 0).toNat : Nat) : Int)))) ((1 : Nat) + (IntKind.wrap .i64 (s96.2.1 - 4)) : Int) ((((k0_.getD ((IntKind.wrap .u32 (((IntKind.wrap .u32 (Int.tdiv ((Int.tmod (IntKind.wrap .u32 (Int.tmod s96.1 100000000)) 10000)) 100))) * 2)) : Int).toNat 0).toNat : Nat) : Int)))).flatMap (encI .u8))]) (by kernel_rfl) (storeB_ok (encI_len .u8) hm) (fun hc => N.storeB (o := 1) (encI_len .u8) hm) (by kernel_rfl) ?_
   refine kEN ?_
   refine kS ?_
   refine J.keep [0, 1, 4, 10, 11] (L2 := [(0, .sl 0 1 x0.toNat 1), (1, .int .u64 (IntKind.wrap .u64 (Int.tdiv s96.1 100000000))), (4, .int .i64 s96.2.1), (10, .int .u32 ((IntKind.wrap .u32 (((IntKind.wrap .u32 (Int.tdiv ((IntKind.wrap .u32 (Int.tdiv (IntKind.wrap .u32 (Int.tmod s96.1 100000000)) 10000))) 100))) * 2)))), (11, .int .u32 ((IntKind.wrap .u32 (((Int.tmod ((IntKind.wrap .u32 (Int.tdiv (IntKind.wrap .u32 (Int.tmod s96.1 100000000)) 10000))) 100)) * 2))))]) (by kernel_rfl) ?_
   refine K.draw (by kernel_rfl) (by kernel_rfl) (by kernel_rfl) (H2 := [.box (((setAt ((setAt ((setAt ((setAt s96.2.2 ((1 : Nat) + (IntKind.wrap .i64 (s96.2.1 - 1)) : Int) ((((k0_.getD ((IntKind.wrap .u32 (((IntKind.wrap .u32 (((Int.tmod ((Int.tmod (IntKind.wrap .u32 (Int.tmod s96.1 100000000)) 10000)) 100)) * 2))) + 1)) : Int).toNat 0).toNat : Nat) : Int)))) ((1 : Nat) + (IntKind.wrap .i64 (s96.2.1 - 2)) : Int) ((((k0_.getD ((IntKind.wrap .u32 (((Int.tmod ((Int.tmod (IntKind.wrap .u32 (Int.tmod s96.1 100000000)) 10000)) 100)) * 2)) : Int).toNat 0).toNat : Nat) : Int)))) ((1 : Nat) + (IntKind.wrap .i64 (s96.2.1 - 3)) : Int) ((((k0_.getD ((IntKind.wrap .u32 (((IntKind.wrap .u32 (((IntKind.wrap .u32 (Int.tdiv ((Int.tmod (IntKind.wrap .u32 (Int.tmod s96.1 100000000)) 10000)) 100))) * 2))) + 1)) : Int).toNat 0).toNat : Nat) : Int)))) ((1 : Nat) + (IntKind.wrap .i64 (s96.2.1 - 4)) : Int) ((((k0_.getD ((IntKind.wrap .u32 (((IntKind.wrap .u32 (Int.tdiv ((Int.tmod (IntKind.wrap .u32 (Int.tmod s96.1 100000000)) 10000)) 100))) * 2)) : Int).toNat 0).toNat : Nat) : Int)))).flatMap (encI .u8))]) (by kernel_rfl) (n := 1) (by kernel_rfl) ?_
   refine kD 8 ?_
   obtain ⟨hm, h172⟩ := asrt h171
   refine RJ.rel (d := (some 76)) (ef := ⟨.int .u8 (((k0_.getD ((IntKind.wrap .u32 (((IntKind.wrap .u32 (((Int.tmod ((IntKind.wrap .u32 (Int.tdiv (IntKind.wrap .u32 (Int.tmod s96.1 100000000)) 10000))) 100)) * 2))) + 1)) : Int).toNat 0).toNat : Nat) : Int), [], []⟩) (ef' := ⟨.int .u8 (((k0_.getD ((IntKind.wrap .u32 (((IntKind.wrap .u32 (((Int.tmod ((IntKind.wrap .u32 (Int.tdiv (IntKind.wrap .u32 (Int.tmod s96.1 100000000)) 10000))) 100)) * 2))) + 1)) : Int).toNat 0).toNat : Nat) : Int), [], []⟩) (c := inR ((IntKind.wrap .u32 (((IntKind.wrap .u32 (((Int.tmod ((IntKind.wrap .u32 (Int.tdiv (IntKind.wrap .u32 (Int.tmod s96.1 100000000)) 10000))) 100)) * 2))) + 1))) k0_.length) (tr2 := [([], []), ([], []), ([], []), ([], []), ([], []), ([], []), ([], []), ([], []), ([], [])]) (H2 := [.box (((setAt ((setAt ((setAt ((setAt s96.2.2 ((1 : Nat) + (IntKind.wrap .i64 (s96.2.1 - 1)) : Int) ((((k0_.getD ((IntKind.wrap .u32 (((IntKind.wrap .u32 (((Int.tmod ((Int.tmod (IntKind.wrap .u32 (Int.tmod s96.1 100000000)) 10000)) 100)) * 2))) + 1)) : Int).toNat 0).toNat : Nat) : Int)))) ((1 : Nat) + (IntKind.wrap .i64 (s96.2.1 - 2)) : Int) ((((k0_.getD ((IntKind.wrap .u32 (((Int.tmod ((Int.tmod (IntKind.wrap .u32 (Int.tmod s96.1 100000000)) 10000)) 100)) * 2)) : Int).toNat 0).toNat : Nat) : Int)))) ((1 : Nat) + (IntKind.wrap .i64 (s96.2.1 - 3)) : Int) ((((k0_.getD ((IntKind.wrap .u32 (((IntKind.wrap .u32 (((IntKind.wrap .u32 (Int.tdiv ((Int.tmod (IntKind.wrap .u32 (Int.tmod s96.1 100000000)) 10000)) 100))) * 2))) + 1)) : Int).toNat 0).toNat : Nat) : Int)))) ((1 : Nat) + (IntKind.wrap .i64 (s96.2.1 - 4)) : Int) ((((k0_.getD ((IntKind.wrap .u32 (((IntKind.wrap .u32 (Int.tdiv ((Int.tmod (IntKind.wrap .u32 (Int.tmod s96.1 100000000)) 10000)) 100))) * 2)) : Int).toNat 0).toNat : Nat) : Int)))).flatMap (encI .u8))]) (by kernel_rfl) hm (fun hc => rfl) (by kernel_rfl) ?_
   refine RJ.segD 1 (tr2 := [([], []), ([], []), ([], []), ([], []), ([], []), ([], []), ([], []), ([], []), ([], []), ([], [])]) (L2 := [(77, .int .u32 ((IntKind.wrap .u32 (((Int.tmod ((IntKind.wrap .u32 (Int.tdiv (IntKind.wrap .u32 (Int.tmod s96.1 100000000)) 10000))) 100)) * 2)))), (76, .int .u8 ((((k0_.getD ((IntKind.wrap .u32 (((IntKind.wrap .u32 (((Int.tmod ((IntKind.wrap .u32 (Int.tdiv (IntKind.wrap .u32 (Int.tmod s96.1 100000000)) 10000))) 100)) * 2))) + 1)) : Int).toNat 0).toNat : Nat) : Int))), (75, .int .u32 ((IntKind.wrap .u32 (((IntKind.wrap .u32 (((Int.tmod ((IntKind.wrap .u32 (Int.tdiv (IntKind.wrap .u32 (Int.tmod s96.1 100000000)) 10000))) 100)) * 2))) + 1)))), (74, .int .u32 ((IntKind.wrap .u32 (((Int.tmod ((IntKind.wrap .u32 (Int.tdiv (IntKind.wrap .u32 (Int.tmod s96.1 100000000)) 10000))) 100)) * 2)))), (73, .int .i64 (IntKind.wrap .i64 (s96.2.1 - 6))), (72, .int .i64 s96.2.1), (71, .sl 0 1 x0.toNat 1), (70, .int .i64 (IntKind.wrap .i64 (s96.2.1 - 5))), (69, .int .i64 s96.2.1), (68, .sl 0 1 x0.toNat 1), (0, .sl 0 1 x0.toNat 1), (1, .int .u64 (IntKind.wrap .u64 (Int.tdiv s96.1 100000000))), (4, .int .i64 s96.2.1), (10, .int .u32 ((IntKind.wrap .u32 (((IntKind.wrap .u32 (Int.tdiv ((IntKind.wrap .u32 (Int.tdiv (IntKind.wrap .u32 (Int.tmod s96.1 100000000)) 10000))) 100))) * 2)))), (11, .int .u32 ((IntKind.wrap .u32 (((Int.tmod ((IntKind.wrap .u32 (Int.tdiv (IntKind.wrap .u32 (Int.tmod s96.1 100000000)) 10000))) 100)) * 2))))]) (H2 := [.box (((setAt ((setAt ((setAt ((setAt s96.2.2 ((1 : Nat) + (IntKind.wrap .i64 (s96.2.1 - 1)) : Int) ((((k0_.getD ((IntKind.wrap .u32 (((IntKind.wrap .u32 (((Int.tmod ((Int.tmod (IntKind.wrap .u32 (Int.tmod s96.1 100000000)) 10000)) 100)) * 2))) + 1)) : Int).toNat 0).toNat : Nat) : Int)))) ((1 : Nat) + (IntKind.wrap .i64 (s96.2.1 - 2)) : Int) ((((k0_.getD ((IntKind.wrap .u32 (((Int.tmod ((Int.tmod (IntKind.wrap .u32 (Int.tmod s96.1 100000000)) 10000)) 100)) * 2)) : Int).toNat 0).toNat : Nat) : Int)))) ((1 : Nat) + (IntKind.wrap .i64 (s96.2.1 - 3)) : Int) ((((k0_.getD ((IntKind.wrap .u32 (((IntKind.wrap .u32 (((IntKind.wrap .u32 (Int.tdiv ((Int.tmod (IntKind.wrap .u32 (Int.tmod s96.1 100000000)) 10000)) 100))) * 2))) + 1)) : Int).toNat 0).toNat : Nat) : Int)))) ((1 : Nat) + (IntKind.wrap .i64 (s96.2.1 - 4)) : Int) ((((k0_.getD ((IntKind.wrap .u32 (((IntKind.wrap .u32 (Int.tdiv ((Int.tmod (IntKind.wrap .u32 (Int.tmod s96.1 100000000)) 10000)) 100))) * 2)) : Int).toNat 0).toNat : Nat) : Int)))).flatMap (encI .u8))]) (by kernel_rfl) ?_
   obtain ⟨hm, h173⟩ := asrt h172
   refine RJ.rel (d := (some 78)) (ef := ⟨.int .u8 (((k0_.getD ((IntKind.wrap .u32 (((Int.tmod ((IntKind.wrap .u32 (Int.tdiv (IntKind.wrap .u32 (Int.tmod s96.1 100000000)) 10000))) 100)) * 2)) : Int).toNat 0).toNat : Nat) : Int), [], []⟩) (ef' := ⟨.int .u8 (((k0_.getD ((IntKind.wrap .u32 (((Int.tmod ((IntKind.wrap .u32 (Int.tdiv (IntKind.wrap .u32 (Int.tmod s96.1 100000000)) 10000))) 100)) * 2)) : Int).toNat 0).toNat : Nat) : Int), [], []⟩) (c := inR ((IntKind.wrap .u32 (((Int.tmod ((IntKind.wrap .u32 (Int.tdiv (IntKind.wrap .u32 (Int.tmod s96.1 100000000)) 10000))) 100)) * 2))) k0_.length) (tr2 := [([], []), ([], []), ([], []), ([], []), ([], []), ([], []), ([], []), ([], []), ([], []), ([], []), ([], [])]) (H2 := [.box (((setAt ((setAt ((setAt ((setAt s96.2.2 ((1 : Nat) + (IntKind.wrap .i64 (s96.2.1 - 1)) : Int) ((((k0_.getD ((IntKind.wrap .u32 (((IntKind.wrap .u32 (((Int.tmod ((Int.tmod (IntKind.wrap .u32 (Int.tmod s96.1 100000000)) 10000)) 100)) * 2))) + 1)) : Int).toNat 0).toNat : Nat) : Int)))) ((1 : Nat) + (IntKind.wrap .i64 (s96.2.1 - 2)) : Int) ((((k0_.getD ((IntKind.wrap .u32 (((Int.tmod ((Int.tmod (IntKind.wrap .u32 (Int.tmod s96.1 100000000)) 10000)) 100)) * 2)) : Int).toNat 0).toNat : Nat) : Int)))) ((1 : Nat) + (IntKind.wrap .i64 (s96.2.1 - 3)) : Int) ((((k0_.getD ((IntKind.wrap .u32 (((IntKind.wrap .u32 (((IntKind.wrap .u32 (Int.tdiv ((Int.tmod (IntKind.wrap .u32 (Int.tmod s96.1 100000000)) 10000)) 100))) * 2))) + 1)) : Int).toNat 0).toNat : Nat) : Int)))) ((1 : Nat) + (IntKind.wrap .i64 (s96.2.1 - 4)) : Int) ((((k0_.getD ((IntKind.wrap .u32 (((IntKind.wrap .u32 (Int.tdiv ((Int.tmod (IntKind.wrap .u32 (Int.tmod s96.1 100000000)) 10000)) 100))) * 2)) : Int).toNat 0).toNat : Nat) : Int)))).flatMap (encI .u8))]) (by kernel_rfl) hm (fun hc => rfl) (by kernel_rfl) ?_
   obtain ⟨hm, h174⟩ := asrt h173
   refine RJ.rel (d := (some 79)) (ef := ⟨.ptr 0 (1 + ((IntKind.wrap .i64 (s96.2.1 - 5)) : Int).toNat * 1), [], []⟩) (ef' := ⟨.ptr 0 (1 + ((IntKind.wrap .i64 (s96.2.1 - 5)) : Int).toNat * 1), [], []⟩) (c := inR (IntKind.wrap .i64 (s96.2.1 - 5)) x0.toNat) (tr2 := [([], []), ([], []), ([], []), ([], []), ([], []), ([], []), ([], []), ([], []), ([], []), ([], []), ([], []), ([], [])]) (H2 := [.box (((setAt ((setAt ((setAt ((setAt s96.2.2 ((1 : Nat) + (IntKind.wrap .i64 (s96.2.1 - 1)) : Int) ((((k0_.getD ((IntKind.wrap .u32 (((IntKind.wrap .u32 (((Int.tmod ((Int.tmod (IntKind.wrap .u32 (Int.tmod s96.1 100000000)) 10000)) 100)) * 2))) + 1)) : Int).toNat 0).toNat : Nat) : Int)))) ((1 : Nat) + (IntKind.wrap .i64 (s96.2.1 - 2)) : Int) ((((k0_.getD ((IntKind.wrap .u32 (((Int.tmod ((Int.tmod (IntKind.wrap .u32 (Int.tmod s96.1 100000000)) 10000)) 100)) * 2)) : Int).toNat 0).toNat : Nat) : Int)))) ((1 : Nat) + (IntKind.wrap .i64 (s96.2.1 - 3)) : Int) ((((k0_.getD ((IntKind.wrap .u32 (((IntKind.wrap .u32 (((IntKind.wrap .u32 (Int.tdiv ((Int.tmod (IntKind.wrap .u32 (Int.tmod s96.1 100000000)) 10000)) 100))) * 2))) + 1)) : Int).toNat 0).toNat : Nat) : Int)))) ((1 : Nat) + (IntKind.wrap .i64 (s96.2.1 - 4)) : Int) ((((k0_.getD ((IntKind.wrap .u32 (((IntKind.wrap .u32 (Int.tdiv ((Int.tmod (IntKind.wrap .u32 (Int.tmod s96.1 100000000)) 10000)) 100))) * 2)) : Int).toNat 0).toNat : Nat) : Int)))).flatMap (encI .u8))]) (by kernel_rfl) hm (fun hc => rfl) (by kernel_rfl) ?_
   obtain ⟨hm, h175⟩ := asrt h174
   refine RJ.relS (d := none) (ef := ⟨.undef, [0], [(0, .box (splice (((setAt ((setAt ((setAt ((setAt s96.2.2 ((1 : Nat) + (IntKind.wrap .i64 (s96.2.1 - 1)) : Int) ((((k0_.getD ((IntKind.wrap .u32 (((IntKind.wrap .u32 (((Int.tmod ((Int.tmod (IntKind.wrap .u32 (Int.tmod s96.1 100000000)) 10000)) 100)) * 2))) + 1)) : Int).toNat 0).toNat : Nat) : Int)))) ((1 : Nat) + (IntKind.wrap .i64 (s96.2.1 - 2)) : Int) ((((k0_.getD ((IntKind.wrap .u32 (((Int.tmod ((Int.tmod (IntKind.wrap .u32 (Int.tmod s96.1 100000000)) 10000)) 100)) * 2)) : Int).toNat 0).toNat : Nat) : Int)))) ((1 : Nat) + (IntKind.wrap .i64 (s96.2.1 - 3)) : Int) ((((k0_.getD ((IntKind.wrap .u32 (((IntKind.wrap .u32 (((IntKind.wrap .u32 (Int.tdiv ((Int.tmod (IntKind.wrap .u32 (Int.tmod s96.1 100000000)) 10000)) 100))) * 2))) + 1)) : Int).toNat 0).toNat : Nat) : Int)))) ((1 : Nat) + (IntKind.wrap .i64 (s96.2.1 - 4)) : Int) ((((k0_.getD ((IntKind.wrap .u32 (((IntKind.wrap .u32 (Int.tdiv ((Int.tmod (IntKind.wrap .u32 (Int.tmod s96.1 100000000)) 10000)) 100))) * 2)) : Int).toNat 0).toNat : Nat) : Int)))).flatMap (encI .u8)) (1 * 1 + ((IntKind.wrap .i64 (s96.2.1 - 5)) : Int).toNat * 1) ((encI .u8) ((((k0_.getD ((IntKind.wrap .u32 (((IntKind.wrap .u32 (((Int.tmod ((IntKind.wrap .u32 (Int.tdiv (IntKind.wrap .u32 (Int.tmod s96.1 100000000)) 10000))) 100)) * 2))) + 1)) : Int).toNat 0).toNat : Nat) : Int)))))]⟩) (ef' := ⟨.undef, [0], [(0, .box ((setAt ((setAt ((setAt ((setAt ((setAt s96.2.2 ((1 : Nat) + (IntKind.wrap .i64 (s96.2.1 - 1)) : Int) ((((k0_.getD ((IntKind.wrap .u32 (((IntKind.wrap .u32 (((Int.tmod ((Int.tmod (IntKind.wrap .u32 (Int.tmod s96.1 100000000)) 10000)) 100)) * 2))) + 1)) : Int).toNat 0).toNat : Nat) : Int)))) ((1 : Nat) + (IntKind.wrap .i64 (s96.2.1 - 2)) : Int) ((((k0_.getD ((IntKind.wrap .u32 (((Int.tmod ((Int.tmod (IntKind.wrap .u32 (Int.tmod s96.1 100000000)) 10000)) 100)) * 2)) : Int).toNat 0).toNat : Nat) : Int)))) ((1 : Nat) + (IntKind.wrap .i64 (s96.2.1 - 3)) : Int) ((((k0_.getD ((IntKind.wrap .u32 (((IntKind.wrap .u32 (((IntKind.wrap .u32 (Int.tdiv ((Int.tmod (IntKind.wrap .u32 (Int.tmod s96.1 100000000)) 10000)) 100))) * 2))) + 1)) : Int).toNat 0).toNat : Nat) : Int)))) ((1 : Nat) + (IntKind.wrap .i64 (s96.2.1 - 4)) : Int) ((((k0_.getD ((IntKind.wrap .u32 (((IntKind.wrap .u32 (Int.tdiv ((Int.tmod (IntKind.wrap .u32 (Int.tmod s96.1 100000000)) 10000)) 100))) * 2)) : Int).toNat 0).toNat : Nat) : Int)))) ((1 : Nat) + (IntKind.wrap .i64 (s96.2.1 - 5)) : Int) ((((k0_.getD ((IntKind.wrap .u32 (((IntKind.wrap .u32 (((Int.tmod ((IntKind.wrap .u32 (Int.tdiv (IntKind.wrap .u32 (Int.tmod s96.1 100000000)) 10000))) 100)) * 2))) + 1)) : Int).toNat 0).toNat : Nat) : Int))).flatMap (encI .u8)))]⟩) (c := Nat.ble (1 * 1 + ((IntKind.wrap .i64 (s96.2.1 - 5)) : Int).toNat * 1 + ((encI .u8) ((((k0_.getD ((IntKind.wrap .u32 (((IntKind.wrap .u32 (((Int.tmod ((IntKind.wrap .u32 (Int.tdiv (IntKind.wrap .u32 (Int.tmod s96.1 100000000)) 10000))) 100)) * 2))) + 1)) : Int).toNat 0).toNat : Nat) : Int))).length) (((setAt ((setAt ((setAt ((setAt s96.2.2 ((1 : Nat) + (IntKind.wrap .i64 (s96.2.1 - 1)) : Int) ((((k0_.getD ((IntKind.wrap .u32 (((IntKind.wrap .u32 (((Int.tmod ((Int.tmod (IntKind.wrap .u32 (Int.tmod s96.1 100000000)) 10000)) 100)) * 2))) + 1)) : Int).toNat 0).toNat : Nat) : Int)))) ((1 : Nat) + (IntKind.wrap .i64 (s96.2.1 - 2)) : Int) ((((k0_.getD ((IntKind.wrap .u32 (((Int.tmod ((Int.tmod (IntKind.wrap .u32 (Int.tmod s96.1 100000000)) 10000)) 100)) * 2)) : Int).toNat 0).toNat : Nat) : Int)))) ((1 : Nat) + (IntKind.wrap .i64 (s96.2.1 - 3)) : Int) ((((k0_.getD ((IntKind.wrap .u32 (((IntKind.wrap .u32 (((IntKind.wrap .u32 (Int.tdiv ((Int.tmod (IntKind.wrap .u32 (Int.tmod s96.1 100000000)) 10000)) 100))) * 2))) + 1)) : Int).toNat 0).toNat : Nat) : Int)))) ((1 : Nat) + (IntKind.wrap .i64 (s96.2.1 - 4)) : Int) ((((k0_.getD ((IntKind.wrap .u32 (((IntKind.wrap .u32 (Int.tdiv ((Int.tmod (IntKind.wrap .u32 (Int.tmod s96.1 100000000)) 10000)) 100))) * 2)) : Int).toNat 0).toNat : Nat) : Int)))).flatMap (encI .u8)).length) (tr2 := [([], []), ([], []), ([], []), ([], []), ([], []), ([], []), ([], []), ([], []), ([], []), ([], []), ([], []), ([], []), ([0, 1], [0])]) (H2 := [.box (((setAt ((setAt ((setAt ((setAt ((setAt s96.2.2 ((1 : Nat) + (IntKind.wrap .i64 (s96.2.1 - 1)) : Int) ((((k0_.getD ((IntKind.wrap .u32 (((IntKind.wrap .u32 (((Int.tmod ((Int.tmod (IntKind.wrap .u32 (Int.tmod s96.1 100000000)) 10000)) 100)) * 2))) + 1)) : Int).toNat 0).toNat : Nat) : Int)))) ((1 : Nat) + (IntKind.wrap .i64 (s96.2.1 - 2)) : Int) ((((k0_.getD ((IntKind.wrap .u32 (((Int.tmod ((Int.tmod (IntKind.wrap .u32 (Int.tmod s96.1 100000000)) 10000)) 100)) * 2)) : Int).toNat 0).toNat : Nat) : Int)))) ((1 : Nat) + (IntKind.wrap .i64 (s96.2.1 - 3)) : Int) ((((k0_.getD ((IntKind.wrap .u32 (((IntKind.wrap .u32 (((IntKind.wrap .u32 (Int.tdiv ((Int.tmod (IntKind.wrap .u32 (Int.tmod s96.1 100000000)) 10000)) 100))) * 2))) + 1)) : Int).toNat 0).toNat : Nat) : Int)))) ((1 : Nat) + (IntKind.wrap .i64 (s96.2.1 - 4)) : Int) ((((k0_.getD ((IntKind.wrap .u32 (((IntKind.wrap .u32 (Int.tdiv ((Int.tmod (IntKind.wrap .u32 (Int.tmod s96.1 100000000)) 10000)) 100))) * 2)) : Int).toNat 0).toNat : Nat) : Int)))) ((1 : Nat) + (IntKind.wrap .i64 (s96.2.1 - 5)) : Int) ((((k0_.getD ((IntKind.wrap .u32 (((IntKind.wrap .u32 (((Int.tmod ((IntKind.wrap .u32 (Int.tdiv (IntKind.wrap .u32 (Int.tmod s96.1 100000000)) 10000))) 100)) * 2))) + 1)) : Int).toNat 0).toNat : Nat) : Int)))).flatMap (encI .u8))]) (by kernel_rfl) (storeB_ok (encI_len .u8) hm) (fun hc => N.storeB (o := 1) (encI_len .u8) hm) (by kernel_rfl) ?_
   obtain ⟨hm, h176⟩ := asrt h175
   refine RJ.rel (d := (some 80)) (ef := ⟨.ptr 0 (1 + ((IntKind.wrap .i64 (s96.2.1 - 6)) : Int).toNat * 1), [], []⟩) (ef' := ⟨.ptr 0 (1 + ((IntKind.wrap .i64 (s96.2.1 - 6)) : Int).toNat * 1), [], []⟩) (c := inR (IntKind.wrap .i64 (s96.2.1 - 6)) x0.toNat) (tr2 := [([], []), ([], []), ([], []), ([], []), ([], []), ([], []), ([], []), ([], []), ([], []), ([], []), ([], []), ([], []), ([0, 1], [0]), ([], [])]) (H2 := [.box (((setAt ((setAt ((setAt ((setAt ((setAt s96.2.2 ((1 : Nat) + (IntKind.wrap .i64 (s96.2.1 - 1)) : Int) ((((k0_.getD ((IntKind.wrap .u32 (((IntKind.wrap .u32 (((Int.tmod ((Int.tmod (IntKind.wrap .u32 (Int.tmod s96.1 100000000)) 10000)) 100)) * 2))) + 1)) : Int).toNat 0).toNat : Nat) : Int)))) ((1 : Nat) + (IntKind.wrap .i64 (s96.2.1 - 2)) : Int) ((((k0_.getD ((IntKind.wrap .u32 (((Int.tmod ((Int.tmod (IntKind.wrap .u32 (Int.tmod s96.1 100000000)) 10000)) 100)) * 2)) : Int).toNat 0).toNat : Nat) : Int)))) ((1 : Nat) + (IntKind.wrap .i64 (s96.2.1 - 3)) : Int) ((((k0_.getD ((IntKind.wrap .u32 (((IntKind.wrap .u32 (((IntKind.wrap .u32 (Int.tdiv ((Int.tmod (IntKind.wrap .u32 (Int.tmod s96.1 100000000)) 10000)) 100))) * 2))) + 1)) : Int).toNat 0).toNat : Nat) : Int)))) ((1 : Nat) + (IntKind.wrap .i64 (s96.2.1 - 4)) : Int) ((((k0_.getD ((IntKind.wrap .u32 (((IntKind.wrap .u32 (Int.tdiv ((Int.tmod (IntKind.wrap .u32 (Int.tmod s96.1 100000000)) 10000)) 100))) * 2)) : Int).toNat 0).toNat : Nat) : Int)))) ((1 : Nat) + (IntKind.wrap .i64 (s96.2.1 - 5)) : Int) ((((k0_.getD ((IntKind.wrap .u32 (((IntKind.wrap .u32 (((Int.tmod ((IntKind.wrap .u32 (Int.tdiv (IntKind.wrap .u32 (Int.tmod s96.1 100000000)) 10000))) 100)) * 2))) + 1)) : Int).toNat 0).toNat : Nat) : Int)))).flatMap (encI .u8))]) (by kernel_rfl) hm (fun hc => rfl) (by kernel_rfl) ?_
   obtain ⟨hm, h177⟩ := asrt h176
   refine RJ.relS (d := none) (ef := ⟨.undef, [0], [(0, .box (splice (((setAt ((setAt ((setAt ((setAt ((setAt s96.2.2 ((1 : Nat) + (IntKind.wrap .i64 (s96.2.1 - 1)) : Int) ((((k0_.getD ((IntKind.wrap .u32 (((IntKind.wrap .u32 (((Int.tmod ((Int.tmod (IntKind.wrap .u32 (Int.tmod s96.1 100000000)) 10000)) 100)) * 2))) + 1)) : Int).toNat 0).toNat : Nat) : Int)))) ((1 : Nat) + (IntKind.wrap .i64 (s96.2.1 - 2)) : Int) ((((k0_.getD ((IntKind.wrap .u32 (((Int.tmod ((Int.tmod (IntKind.wrap .u32 (Int.tmod s96.1 100000000)) 10000)) 100)) * 2)) : Int).toNat 0).toNat : Nat) : Int)))) ((1 : Nat) + (IntKind.wrap .i64 (s96.2.1 - 3)) : Int) ((((k0_.getD ((IntKind.wrap .u32 (((IntKind.wrap .u32 (((IntKind.wrap .u32 (Int.tdiv ((Int.tmod (IntKind.wrap .u32 (Int.tmod s96.1 100000000)) 10000)) 100))) * 2))) + 1)) : Int).toNat 0).toNat : Nat) : Int)))) ((1 : Nat) + (IntKind.wrap .i64 (s96.2.1 - 4)) : Int) ((((k0_.getD ((IntKind.wrap .u32 (((IntKind.wrap .u32 (Int.tdiv ((Int.tmod (IntKind.wrap .u32 (Int.tmod s96.1 100000000)) 10000)) 100))) * 2)) : Int).toNat 0).toNat : Nat) : Int)))) ((1 : Nat) + (IntKind.wrap .i64 (s96.2.1 - 5)) : Int) ((((k0_.getD ((IntKind.wrap .u32 (((IntKind.wrap .u32 (((Int.tmod ((IntKind.wrap .u32 (Int.tdiv (IntKind.wrap .u32 (Int.tmod s96.1 100000000)) 10000))) 100)) * 2))) + 1)) : Int).toNat 0).toNat : Nat) : Int)))).flatMap (encI .u8)) (1 * 1 + ((IntKind.wrap .i64 (s96.2.1 - 6)) : Int).toNat * 1) ((encI .u8) ((((k0_.getD ((IntKind.wrap .u32 (((Int.tmod ((IntKind.wrap .u32 (Int.tdiv (IntKind.wrap .u32 (Int.tmod s96.1 100000000)) 10000))) 100)) * 2)) : Int).toNat 0).toNat : Nat) : Int)))))]⟩) (ef' := ⟨.undef, [0], [(0, .box ((setAt ((setAt ((setAt ((setAt ((setAt ((setAt s96.2.2 ((1 : Nat) + (IntKind.wrap .i64 (s96.2.1 - 1)) : Int) ((((k0_.getD ((IntKind.wrap .u32 (((IntKind.wrap .u32 (((Int.tmod ((Int.tmod (IntKind.wrap .u32 (Int.tmod s96.1 100000000)) 10000)) 100)) * 2))) + 1)) : Int).toNat 0).toNat : Nat) : Int)))) ((1 : Nat) + (IntKind.wrap .i64 (s96.2.1 - 2)) : Int) ((((k0_.getD ((IntKind.wrap .u32 (((Int.tmod ((Int.tmod (IntKind.wrap .u32 (Int.tmod s96.1 100000000)) 10000)) 100)) * 2)) : Int).toNat 0).toNat : Nat) : Int)))) ((1 : Nat) + (IntKind.wrap .i64 (s96.2.1 - 3)) : Int) ((((k0_.getD ((IntKind.wrap .u32 (((IntKind.wrap .u32 (((IntKind.wrap .u32 (Int.tdiv ((Int.tmod (IntKind.wrap .u32 (Int.tmod s96.1 100000000)) 10000)) 100))) * 2))) + 1)) : Int).toNat 0).toNat : Nat) : Int)))) ((1 : Nat) + (IntKind.wrap .i64 (s96.2.1 - 4)) : Int) ((((k0_.getD ((IntKind.wrap .u32 (((IntKind.wrap .u32 (Int.tdiv ((Int.tmod (IntKind.wrap .u32 (Int.tmod s96.1 100000000)) 10000)) 100))) * 2)) : Int).toNat 0).toNat : Nat) : Int)))) ((1 : Nat) + (IntKind.wrap .i64 (s96.2.1 - 5)) : Int) ((((k0_.getD ((IntKind.wrap .u32 (((IntKind.wrap .u32 (((Int.tmod ((IntKind.wrap .u32 (Int.tdiv (IntKind.wrap .u32 (Int.tmod s96.1 100000000)) 10000))) 100)) * 2))) + 1)) : Int).toNat 0).toNat : Nat) : Int)))) ((1 : Nat) + (IntKind.wrap .i64 (s96.2.1 - 6)) : Int) ((((k0_.getD ((IntKind.wrap .u32 (((Int.tmod ((IntKind.wrap .u32 (Int.tdiv (IntKind.wrap .u32 (Int.tmod s96.1 100000000)) 10000))) 100)) * 2)) : Int).toNat 0).toNat : Nat) : Int))).flatMap (encI .u8)))]⟩) (c := Nat.ble (1 * 1 + ((IntKind.wrap .i64 (s96.2.1 - 6)) : Int).toNat * 1 + ((encI .u8) ((((k0_.getD ((IntKind.wrap .u32 (((Int.tmod ((IntKind.wrap .u32 (Int.tdiv (IntKind.wrap .u32 (Int.tmod s96.1 100000000)) 10000))) 100)) * 2)) : Int).toNat 0).toNat : Nat) : Int))).length) (((setAt ((setAt ((setAt ((setAt ((setAt s96.2.2 ((1 : Nat) + (IntKind.wrap .i64 (s96.2.1 - 1)) : Int) ((((k0_.getD ((IntKind.wrap .u32 (((IntKind.wrap .u32 (((Int.tmod ((Int.tmod (IntKind.wrap .u32 (Int.tmod s96.1 100000000)) 10000)) 100)) * 2))) + 1)) : Int).toNat 0).toNat : Nat) : Int)))) ((1 : Nat) + (IntKind.wrap .i64 (s96.2.1 - 2)) : Int) ((((k0_.getD ((IntKind.wrap .u32 (((Int.tmod ((Int.tmod (IntKind.wrap .u32 (Int.tmod s96.1 100000000)) 10000)) 100)) * 2)) : Int).toNat 0).toNat : Nat) : Int)))) ((1 : Nat) + (IntKind.wrap .i64 (s96.2.1 - 3)) : Int) ((((k0_.getD ((IntKind.wrap .u32 (((IntKind.wrap .u32 (((IntKind.wrap .u32 (Int.tdiv ((Int.tmod (IntKind.wrap .u32 (Int.tmod s96.1 100000000)) 10000)) 100))) * 2))) + 1)) : Int).toNat 0).toNat : Nat) : Int)))) ((1 : Nat) + (IntKind.wrap .i64 (s96.2.1 - 4)) : Int) ((((k0_.getD ((IntKind.wrap .u32 (((IntKind.wrap .u32 (Int.tdiv ((Int.tmod (IntKind.wrap .u32 (Int.tmod s96.1 100000000)) 10000)) 100))) * 2)) : Int).toNat 0).toNat : Nat) : Int)))) ((1 : Nat) + (IntKind.wrap .i64 (s96.2.1 - 5)) : Int) ((((k0_.getD ((IntKind.wrap .u32 (((IntKind.wrap .u32 (((Int.tmod ((IntKind.wrap .u32 (Int.tdiv (IntKind.wrap .u32 (Int.tmod s96.1 100000000)) 10000))) 100)) * 2))) + 1)) : Int).toNat 0).toNat : Nat) : Int)))).flatMap (encI .u8)).length) (tr2 := [([], []), ([], []), ([], []), ([], []), ([], []), ([], []), ([], []), ([], []), ([], []), ([], []), ([], []), ([], []), ([0, 1], [0]), ([], []), ([0, 1], [0])]) (H2 := [.box (((setAt ((setAt ((setAt ((setAt ((setAt ((setAt s96.2.2 ((1 : Nat) + (IntKind.wrap .i64 (s96.2.1 - 1)) : Int) ((((k0_.getD ((IntKind.wrap .u32 (((IntKind.wrap .u32 (((Int.tmod ((Int.tmod (IntKind.wrap .u32 (Int.tmod s96.1 100000000)) 10000)) 100)) * 2))) + 1)) : Int).toNat 0).toNat : Nat) : Int)))) ((1 : Nat) + (IntKind.wrap .i64 (s96.2.1 - 2)) : Int) ((((k0_.getD ((IntKind.wrap .u32 (((Int.tmod ((Int.tmod (IntKind.wrap .u32 (Int.tmod s96.1 100000000)) 10000)) 100)) * 2)) : Int).toNat 0).toNat : Nat) : Int)))) ((1 : Nat) + (IntKind.wrap .i64 (s96.2.1 - 3)) : Int) ((((k0_.getD ((IntKind.wrap .u32 (((IntKind.wrap .u32 (((IntKind.wrap .u32 (Int.tdiv ((Int.tmod (IntKind.wrap .u32 (Int.tmod s96.1 100000000)) 10000)) 100))) * 2))) + 1)) : Int).toNat 0).toNat : Nat) : Int)))) ((1 : Nat) + (IntKind.wrap .i64 (s96.2.1 - 4)) : Int) ((((k0_.getD ((IntKind.wrap .u32 (((IntKind.wrap .u32 (Int.tdiv ((Int.tmod (IntKind.wrap .u32 (Int.tmod s96.1 100000000)) 10000)) 100))) * 2)) : Int).toNat 0).toNat : Nat) : Int)))) ((1 : Nat) + (IntKind.wrap .i64 (s96.2.1 - 5)) : Int) ((((k0_.getD ((IntKind.wrap .u32 (((IntKind.wrap .u32 (((Int.tmod ((IntKind.wrap .u32 (Int.tdiv (IntKind.wrap .u32 (Int.tmod s96.1 100000000)) 10000))) 100)) * 2))) + 1)) : Int).toNat 0).toNat : Nat) : Int)))) ((1 : Nat) + (IntKind.wrap .i64 (s96.2.1 - 6)) : Int) ((((k0_.getD ((IntKind.wrap .u32 (((Int.tmod ((IntKind.wrap .u32 (Int.tdiv (IntKind.wrap .u32 (Int.tmod s96.1 100000000)) 10000))) 100)) * 2)) : Int).toNat 0).toNat : Nat) : Int)))).flatMap (encI .u8))]) (by kernel_rfl) (storeB_ok (encI_len .u8) hm) (fun hc => N.storeB (o := 1) (encI_len .u8) hm) (by kernel_rfl) ?_
   refine kEN ?_
   refine kS ?_
   refine J.keep [0, 1, 4, 10] (L2 := [(0, .sl 0 1 x0.toNat 1), (1, .int .u64 (IntKind.wrap .u64 (Int.tdiv s96.1 100000000))), (4, .int .i64 s96.2.1), (10, .int .u32 ((IntKind.wrap .u32 (((IntKind.wrap .u32 (Int.tdiv ((IntKind.wrap .u32 (Int.tdiv (IntKind.wrap .u32 (Int.tmod s96.1 100000000)) 10000))) 100))) * 2))))]) (by kernel_rfl) ?_
   refine K.draw (by kernel_rfl) (by kernel_rfl) (by kernel_rfl) (H2 := [.box (((setAt ((setAt ((setAt ((setAt ((setAt ((setAt s96.2.2 ((1 : Nat) + (IntKind.wrap .i64 (s96.2.1 - 1)) : Int) ((((k0_.getD ((IntKind.wrap .u32 (((IntKind.wrap .u32 (((Int.tmod ((Int.tmod (IntKind.wrap .u32 (Int.tmod s96.1 100000000)) 10000)) 100)) * 2))) + 1)) : Int).toNat 0).toNat : Nat) : Int)))) ((1 : Nat) + (IntKind.wrap .i64 (s96.2.1 - 2)) : Int) ((((k0_.getD ((IntKind.wrap .u32 (((Int.tmod ((Int.tmod (IntKind.wrap .u32 (Int.tmod s96.1 100000000)) 10000)) 100)) * 2)) : Int).toNat 0).toNat : Nat) : Int)))) ((1 : Nat) + (IntKind.wrap .i64 (s96.2.1 - 3)) : Int) ((((k0_.getD ((IntKind.wrap .u32 (((IntKind.wrap .u32 (((IntKind.wrap .u32 (Int.tdiv ((Int.tmod (IntKind.wrap .u32 (Int.tmod s96.1 100000000)) 10000)) 100))) * 2))) + 1)) : Int).toNat 0).toNat : Nat) : Int)))) ((1 : Nat) + (IntKind.wrap .i64 (s96.2.1 - 4)) : Int) ((((k0_.getD ((IntKind.wrap .u32 (((IntKind.wrap .u32 (Int.tdiv ((Int.tmod (IntKind.wrap .u32 (Int.tmod s96.1 100000000)) 10000)) 100))) * 2)) : Int).toNat 0).toNat : Nat) : Int)))) ((1 : Nat) + (IntKind.wrap .i64 (s96.2.1 - 5)) : Int) ((((k0_.getD ((IntKind.wrap .u32 (((IntKind.wrap .u32 (((Int.tmod ((IntKind.wrap .u32 (Int.tdiv (IntKind.wrap .u32 (Int.tmod s96.1 100000000)) 10000))) 100)) * 2))) + 1)) : Int).toNat 0).toNat : Nat) : Int)))) ((1 : Nat) + (IntKind.wrap .i64 (s96.2.1 - 6)) : Int) ((((k0_.getD ((IntKind.wrap .u32 (((Int.tmod ((IntKind.wrap .u32 (Int.tdiv (IntKind.wrap .u32 (Int.tmod s96.1 100000000)) 10000))) 100)) * 2)) : Int).toNat 0).toNat : Nat) : Int)))).flatMap (encI .u8))]) (by kernel_rfl) (n := 1) (by kernel_rfl) ?_
   refine kD 8 ?_
   obtain ⟨hm, h178⟩ := asrt h177
   refine RJ.rel (d := (some 89)) (ef := ⟨.int .u8 (((k0_.getD ((IntKind.wrap .u32 (((IntKind.wrap .u32 (((IntKind.wrap .u32 (Int.tdiv ((IntKind.wrap .u32 (Int.tdiv (IntKind.wrap .u32 (Int.tmod s96.1 100000000)) 10000))) 100))) * 2))) + 1)) : Int).toNat 0).toNat : Nat) : Int), [], []⟩) (ef' := ⟨.int .u8 (((k0_.getD ((IntKind.wrap .u32 (((IntKind.wrap .u32 (((IntKind.wrap .u32 (Int.tdiv ((IntKind.wrap .u32 (Int.tdiv (IntKind.wrap .u32 (Int.tmod s96.1 100000000)) 10000))) 100))) * 2))) + 1)) : Int).toNat 0).toNat : Nat) : Int), [], []⟩) (c := inR ((IntKind.wrap .u32 (((IntKind.wrap .u32 (((IntKind.wrap .u32 (Int.tdiv ((IntKind.wrap .u32 (Int.tdiv (IntKind.wrap .u32 (Int.tmod s96.1 100000000)) 10000))) 100))) * 2))) + 1))) k0_.length) (tr2 := [([], []), ([], []), ([], []), ([], []), ([], []), ([], []), ([], []), ([], []), ([], [])]) (H2 := [.box (((setAt ((setAt ((setAt ((setAt ((setAt ((setAt s96.2.2 ((1 : Nat) + (IntKind.wrap .i64 (s96.2.1 - 1)) : Int) ((((k0_.getD ((IntKind.wrap .u32 (((IntKind.wrap .u32 (((Int.tmod ((Int.tmod (IntKind.wrap .u32 (Int.tmod s96.1 100000000)) 10000)) 100)) * 2))) + 1)) : Int).toNat 0).toNat : Nat) : Int)))) ((1 : Nat) + (IntKind.wrap .i64 (s96.2.1 - 2)) : Int) ((((k0_.getD ((IntKind.wrap .u32 (((Int.tmod ((Int.tmod (IntKind.wrap .u32 (Int.tmod s96.1 100000000)) 10000)) 100)) * 2)) : Int).toNat 0).toNat : Nat) : Int)))) ((1 : Nat) + (IntKind.wrap .i64 (s96.2.1 - 3)) : Int) ((((k0_.getD ((IntKind.wrap .u32 (((IntKind.wrap .u32 (((IntKind.wrap .u32 (Int.tdiv ((Int.tmod (IntKind.wrap .u32 (Int.tmod s96.1 100000000)) 10000)) 100))) * 2))) + 1)) : Int).toNat 0).toNat : Nat) : Int)))) ((1 : Nat) + (IntKind.wrap .i64 (s96.2.1 - 4)) : Int) ((((k0_.getD ((IntKind.wrap .u32 (((IntKind.wrap .u32 (Int.tdiv ((Int.tmod (IntKind.wrap .u32 (Int.tmod s96.1 100000000)) 10000)) 100))) * 2)) : Int).toNat 0).toNat : Nat) : Int)))) ((1 : Nat) + (IntKind.wrap .i64 (s96.2.1 - 5)) : Int) ((((k0_.getD ((IntKind.wrap .u32 (((IntKind.wrap .u32 (((Int.tmod ((IntKind.wrap .u32 (Int.tdiv (IntKind.wrap .u32 (Int.tmod s96.1 100000000)) 10000))) 100)) * 2))) + 1)) : Int).toNat 0).toNat : Nat) : Int)))) ((1 : Nat) + (IntKind.wrap .i64 (s96.2.1 - 6)) : Int) ((((k0_.getD ((IntKind.wrap .u32 (((Int.tmod ((IntKind.wrap .u32 (Int.tdiv (IntKind.wrap .u32 (Int.tmod s96.1 100000000)) 10000))) 100)) * 2)) : Int).toNat 0).toNat : Nat) : Int)))).flatMap (encI .u8))]) (by kernel_rfl) hm (fun hc => rfl) (by kernel_rfl) ?_
   refine kD 1 ?_
   obtain ⟨hm, h179⟩ := asrt h178
   refine RJ.rel (d := (some 91)) (ef := ⟨.int .u8 (((k0_.getD ((IntKind.wrap .u32 (((IntKind.wrap .u32 (Int.tdiv ((IntKind.wrap .u32 (Int.tdiv (IntKind.wrap .u32 (Int.tmod s96.1 100000000)) 10000))) 100))) * 2)) : Int).toNat 0).toNat : Nat) : Int), [], []⟩) (ef' := ⟨.int .u8 (((k0_.getD ((IntKind.wrap .u32 (((IntKind.wrap .u32 (Int.tdiv ((IntKind.wrap .u32 (Int.tdiv (IntKind.wrap .u32 (Int.tmod s96.1 100000000)) 10000))) 100))) * 2)) : Int).toNat 0).toNat : Nat) : Int), [], []⟩) (c := inR ((IntKind.wrap .u32 (((IntKind.wrap .u32 (Int.tdiv ((IntKind.wrap .u32 (Int.tdiv (IntKind.wrap .u32 (Int.tmod s96.1 100000000)) 10000))) 100))) * 2))) k0_.length) (tr2 := [([], []), ([], []), ([], []), ([], []), ([], []), ([], []), ([], []), ([], []), ([], []), ([], []), ([], [])]) (H2 := [.box (((setAt ((setAt ((setAt ((setAt ((setAt ((setAt s96.2.2 ((1 : Nat) + (IntKind.wrap .i64 (s96.2.1 - 1)) : Int) ((((k0_.getD ((IntKind.wrap .u32 (((IntKind.wrap .u32 (((Int.tmod ((Int.tmod (IntKind.wrap .u32 (Int.tmod s96.1 100000000)) 10000)) 100)) * 2))) + 1)) : Int).toNat 0).toNat : Nat) : Int)))) ((1 : Nat) + (IntKind.wrap .i64 (s96.2.1 - 2)) : Int) ((((k0_.getD ((IntKind.wrap .u32 (((Int.tmod ((Int.tmod (IntKind.wrap .u32 (Int.tmod s96.1 100000000)) 10000)) 100)) * 2)) : Int).toNat 0).toNat : Nat) : Int)))) ((1 : Nat) + (IntKind.wrap .i64 (s96.2.1 - 3)) : Int) ((((k0_.getD ((IntKind.wrap .u32 (((IntKind.wrap .u32 (((IntKind.wrap .u32 (Int.tdiv ((Int.tmod (IntKind.wrap .u32 (Int.tmod s96.1 100000000)) 10000)) 100))) * 2))) + 1)) : Int).toNat 0).toNat : Nat) : Int)))) ((1 : Nat) + (IntKind.wrap .i64 (s96.2.1 - 4)) : Int) ((((k0_.getD ((IntKind.wrap .u32 (((IntKind.wrap .u32 (Int.tdiv ((Int.tmod (IntKind.wrap .u32 (Int.tmod s96.1 100000000)) 10000)) 100))) * 2)) : Int).toNat 0).toNat : Nat) : Int)))) ((1 : Nat) + (IntKind.wrap .i64 (s96.2.1 - 5)) : Int) ((((k0_.getD ((IntKind.wrap .u32 (((IntKind.wrap .u32 (((Int.tmod ((IntKind.wrap .u32 (Int.tdiv (IntKind.wrap .u32 (Int.tmod s96.1 100000000)) 10000))) 100)) * 2))) + 1)) : Int).toNat 0).toNat : Nat) : Int)))) ((1 : Nat) + (IntKind.wrap .i64 (s96.2.1 - 6)) : Int) ((((k0_.getD ((IntKind.wrap .u32 (((Int.tmod ((IntKind.wrap .u32 (Int.tdiv (IntKind.wrap .u32 (Int.tmod s96.1 100000000)) 10000))) 100)) * 2)) : Int).toNat 0).toNat : Nat) : Int)))).flatMap (encI .u8))]) (by kernel_rfl) hm (fun hc => rfl) (by kernel_rfl) ?_
   obtain ⟨hm, h180⟩ := asrt h179
   refine RJ.rel (d := (some 92)) (ef := ⟨.ptr 0 (1 + ((IntKind.wrap .i64 (s96.2.1 - 7)) : Int).toNat * 1), [], []⟩) (ef' := ⟨.ptr 0 (1 + ((IntKind.wrap .i64 (s96.2.1 - 7)) : Int).toNat * 1), [], []⟩) (c := inR (IntKind.wrap .i64 (s96.2.1 - 7)) x0.toNat) (tr2 := [([], []), ([], []), ([], []), ([], []), ([], []), ([], []), ([], []), ([], []), ([], []), ([], []), ([], []), ([], [])]) (H2 := [.box (((setAt ((setAt ((setAt ((setAt ((setAt ((setAt s96.2.2 ((1 : Nat) + (IntKind.wrap .i64 (s96.2.1 - 1)) : Int) ((((k0_.getD ((IntKind.wrap .u32 (((IntKind.wrap .u32 (((Int.tmod ((Int.tmod (IntKind.wrap .u32 (Int.tmod s96.1 100000000)) 10000)) 100)) * 2))) + 1)) : Int).toNat 0).toNat : Nat) : Int)))) ((1 : Nat) + (IntKind.wrap .i64 (s96.2.1 - 2)) : Int) ((((k0_.getD ((IntKind.wrap .u32 (((Int.tmod ((Int.tmod (IntKind.wrap .u32 (Int.tmod s96.1 100000000)) 10000)) 100)) * 2)) : Int).toNat 0).toNat : Nat) : Int)))) ((1 : Nat) + (IntKind.wrap .i64 (s96.2.1 - 3)) : Int) ((((k0_.getD ((IntKind.wrap .u32 (((IntKind.wrap .u32 (((IntKind.wrap .u32 (Int.tdiv ((Int.tmod (IntKind.wrap .u32 (Int.tmod s96.1 100000000)) 10000)) 100))) * 2))) + 1)) : Int).toNat 0).toNat : Nat) : Int)))) ((1 : Nat) + (IntKind.wrap .i64 (s96.2.1 - 4)) : Int) ((((k0_.getD ((IntKind.wrap .u32 (((IntKind.wrap .u32 (Int.tdiv ((Int.tmod (IntKind.wrap .u32 (Int.tmod s96.1 100000000)) 10000)) 100))) * 2)) : Int).toNat 0).toNat : Nat) : Int)))) ((1 : Nat) + (IntKind.wrap .i64 (s96.2.1 - 5)) : Int) ((((k0_.getD ((IntKind.wrap .u32 (((IntKind.wrap .u32 (((Int.tmod ((IntKind.wrap .u32 (Int.tdiv (IntKind.wrap .u32 (Int.tmod s96.1 100000000)) 10000))) 100)) * 2))) + 1)) : Int).toNat 0).toNat : Nat) : Int)))) ((1 : Nat) + (IntKind.wrap .i64 (s96.2.1 - 6)) : Int) ((((k0_.getD ((IntKind.wrap .u32 (((Int.tmod ((IntKind.wrap .u32 (Int.tdiv (IntKind.wrap .u32 (Int.tmod s96.1 100000000)) 10000))) 100)) * 2)) : Int).toNat 0).toNat : Nat) : Int)))).flatMap (encI .u8))]) (by kernel_rfl) hm (fun hc => rfl) (by kernel_rfl) ?_
   obtain ⟨hm, h181⟩ := asrt h180
   refine RJ.relS (d := none) (ef := ⟨.undef, [0], [(0, .box (splice (((setAt ((setAt ((setAt ((setAt ((setAt ((setAt s96.2.2 ((1 : Nat) + (IntKind.wrap .i64 (s96.2.1 - 1)) : Int) ((((k0_.getD ((IntKind.wrap .u32 (((IntKind.wrap .u32 (((Int.tmod ((Int.tmod (IntKind.wrap .u32 (Int.tmod s96.1 100000000)) 10000)) 100)) * 2))) + 1)) : Int).toNat 0).toNat : Nat) : Int)))) ((1 : Nat) + (IntKind.wrap .i64 (s96.2.1 - 2)) : Int) ((((k0_.getD ((IntKind.wrap .u32 (((Int.tmod ((Int.tmod (IntKind.wrap .u32 (Int.tmod s96.1 100000000)) 10000)) 100)) * 2)) : Int).toNat 0).toNat : Nat) : Int)))) ((1 : Nat) + (IntKind.wrap .i64 (s96.2.1 - 3)) : Int) ((((k0_.getD ((IntKind.wrap .u32 (((IntKind.wrap .u32 (((IntKind.wrap .u32 (Int.tdiv ((Int.tmod (IntKind.wrap .u32 (Int.tmod s96.1 100000000)) 10000)) 100))) * 2))) + 1)) : Int).toNat 0).toNat : Nat) : Int)))) ((1 : Nat) + (IntKind.wrap .i64 (s96.2.1 - 4)) : Int) ((((k0_.getD ((IntKind.wrap .u32 (((IntKind.wrap .u32 (Int.tdiv ((Int.tmod (IntKind.wrap .u32 (Int.tmod s96.1 100000000)) 10000)) 100))) * 2)) : Int).toNat 0).toNat : Nat) : Int)))) ((1 : Nat) + (IntKind.wrap .i64 (s96.2.1 - 5)) : Int) ((((k0_.getD ((IntKind.wrap .u32 (((IntKind.wrap .u32 (((Int.tmod ((IntKind.wrap .u32 (Int.tdiv (IntKind.wrap .u32 (Int.tmod s96.1 100000000)) 10000))) 100)) * 2))) + 1)) : Int).toNat 0).toNat : Nat) : Int)))) ((1 : Nat) + (IntKind.wrap .i64 (s96.2.1 - 6)) : Int) ((((k0_.getD ((IntKind.wrap .u32 (((Int.tmod ((IntKind.wrap .u32 (Int.tdiv (IntKind.wrap .u32 (Int.tmod s96.1 100000000)) 10000))) 100)) * 2)) : Int).toNat 0).toNat : Nat) : Int)))).flatMap (encI .u8)) (1 * 1 + ((IntKind.wrap .i64 (s96.2.1 - 7)) : Int).toNat * 1) ((encI .u8) ((((k0_.getD ((IntKind.wrap .u32 (((IntKind.wrap .u32 (((IntKind.wrap .u32 (Int.tdiv ((IntKind.wrap .u32 (Int.tdiv (IntKind.wrap .u32 (Int.tmod s96.1 100000000)) 10000))) 100))) * 2))) + 1)) : Int).toNat 0).toNat : Nat) : Int)))))]⟩) (ef' := ⟨.undef, [0], [(0, .box ((setAt ((setAt ((setAt ((setAt ((setAt ((setAt ((setAt s96.2.2 ((1 : Nat) + (IntKind.wrap .i64 (s96.2.1 - 1)) : Int) ((((k0_.getD ((IntKind.wrap .u32 (((IntKind.wrap .u32 (((Int.tmod ((Int.tmod (IntKind.wrap .u32 (Int.tmod s96.1 100000000)) 10000)) 100)) * 2))) + 1)) : Int).toNat 0).toNat : Nat) : Int)))) ((1 : Nat) + (IntKind.wrap .i64 (s96.2.1 - 2)) : Int) ((((k0_.getD ((IntKind.wrap .u32 (((Int.tmod ((Int.tmod (IntKind.wrap .u32 (Int.tmod s96.1 100000000)) 10000)) 100)) * 2)) : Int).toNat 0).toNat : Nat) : Int)))) ((1 : Nat) + (IntKind.wrap .i64 (s96.2.1 - 3)) : Int) ((((k0_.getD ((IntKind.wrap .u32 (((IntKind.wrap .u32 (((IntKind.wrap .u32 (Int.tdiv ((Int.tmod (IntKind.wrap .u32 (Int.tmod s96.1 100000000)) 10000)) 100))) * 2))) + 1)) : Int).toNat 0).toNat : Nat) : Int)))) ((1 : Nat) + (IntKind.wrap .i64 (s96.2.1 - 4)) : Int) ((((k0_.getD ((IntKind.wrap .u32 (((IntKind.wrap .u32 (Int.tdiv ((Int.tmod (IntKind.wrap .u32 (Int.tmod s96.1 100000000)) 10000)) 100))) * 2)) : Int).toNat 0).toNat : Nat) : Int)))) ((1 : Nat) + (IntKind.wrap .i64 (s96.2.1 - 5)) : Int) ((((k0_.getD ((IntKind.wrap .u32 (((IntKind.wrap .u32 (((Int.tmod ((IntKind.wrap .u32 (Int.tdiv (IntKind.wrap .u32 (Int.tmod s96.1 100000000)) 10000))) 100)) * 2))) + 1)) : Int).toNat 0).toNat : Nat) : Int)))) ((1 : Nat) + (IntKind.wrap .i64 (s96.2.1 - 6)) : Int) ((((k0_.getD ((IntKind.wrap .u32 (((Int.tmod ((IntKind.wrap .u32 (Int.tdiv (IntKind.wrap .u32 (Int.tmod s96.1 100000000)) 10000))) 100)) * 2)) : Int).toNat 0).toNat : Nat) : Int)))) ((1 : Nat) + (IntKind.wrap .i64 (s96.2.1 - 7)) : Int) ((((k0_.getD ((IntKind.wrap .u32 (((IntKind.wrap .u32 (((IntKind.wrap .u32 (Int.tdiv ((IntKind.wrap .u32 (Int.tdiv (IntKind.wrap .u32 (Int.tmod s96.1 100000000)) 10000))) 100))) * 2))) + 1)) : Int).toNat 0).toNat : Nat) : Int))).flatMap (encI .u8)))]⟩) (c := Nat.ble (1 * 1 + ((IntKind.wrap .i64 (s96.2.1 - 7)) : Int).toNat * 1 + ((encI .u8) ((((k0_.getD ((IntKind.wrap .u32 (((IntKind.wrap .u32 (((IntKind.wrap .u32 (Int.tdiv ((IntKind.wrap .u32 (Int.tdiv (IntKind.wrap .u32 (Int.tmod s96.1 100000000)) 10000))) 100))) * 2))) + 1)) : Int).toNat 0).toNat : Nat) : Int))).length) (((setAt ((setAt ((setAt ((setAt ((setAt ((setAt s96.2.2 ((1 : Nat) + (IntKind.wrap .i64 (s96.2.1 - 1)) : Int) ((((k0_.getD ((IntKind.wrap .u32 (((IntKind.wrap .u32 (((Int.tmod ((Int.tmod (IntKind.wrap .u32 (Int.tmod s96.1 100000000)) 10000)) 100)) * 2))) + 1)) : Int).toNat 0).toNat : Nat) : Int)))) ((1 : Nat) + (IntKind.wrap .i64 (s96.2.1 - 2)) : Int) ((((k0_.getD ((IntKind.wrap .u32 (((Int.tmod ((Int.tmod (IntKind.wrap .u32 (Int.tmod s96.1 100000000)) 10000)) 100)) * 2)) : Int).toNat 0).toNat : Nat) : Int)))) ((1 : Nat) + (IntKind.wrap .i64 (s96.2.1 - 3)) : Int) ((((k0_.getD ((IntKind.wrap .u32 (((IntKind.wrap .u32 (((IntKind.wrap .u32 (Int.tdiv ((Int.tmod (IntKind.wrap .u32 (Int.tmod s96.1 100000000)) 10000)) 100))) * 2))) + 1)) : Int).toNat 0).toNat : Nat) : Int)))) ((1 : Nat) + (IntKind.wrap .i64 (s96.2.1 - 4)) : Int) ((((k0_.getD ((IntKind.wrap .u32 (((IntKind.wrap .u32 (Int.tdiv ((Int.tmod (IntKind.wrap .u32 (Int.tmod s96.1 100000000)) 10000)) 100))) * 2)) : Int).toNat 0).toNat : Nat) : Int)))) ((1 : Nat) + (IntKind.wrap .i64 (s96.2.1 - 5)) : Int) ((((k0_.getD ((IntKind.wrap .u32 (((IntKind.wrap .u32 (((Int.tmod ((IntKind.wrap .u32 (Int.tdiv (IntKind.wrap .u32 (Int.tmod s96.1 100000000)) 10000))) 100)) * 2))) + 1)) : Int).toNat 0).toNat : Nat) : Int)))) ((1 : Nat) + (IntKind.wrap .i64 (s96.2.1 - 6)) : Int) ((((k0_.getD ((IntKind.wrap .u32 (((Int.tmod ((IntKind.wrap .u32 (Int.tdiv (IntKind.wrap .u32 (Int.tmod s96.1 100000000)) 10000))) 100)) * 2)) : Int).toNat 0).toNat : Nat) : Int)))).flatMap (encI .u8)).length) (tr2 := [([], []), ([], []), ([], []), ([], []), ([], []), ([], []), ([], []), ([], []), ([], []), ([], []), ([], []), ([], []), ([0, 1], [0])]) (H2 := [.box (((setAt ((setAt ((setAt ((setAt ((setAt ((setAt ((setAt s96.2.2 ((1 : Nat) + (IntKind.wrap .i64 (s96.2.1 - 1)) : Int) ((((k0_.getD ((IntKind.wrap .u32 (((IntKind.wrap .u32 (((Int.tmod ((Int.tmod (IntKind.wrap .u32 (Int.tmod s96.1 100000000)) 10000)) 100)) * 2))) + 1)) : Int).toNat 0).toNat : Nat) : Int)))) ((1 : Nat) + (IntKind.wrap .i64 (s96.2.1 - 2)) : Int) ((((k0_.getD ((IntKind.wrap .u32 (((Int.tmod ((Int.tmod (IntKind.wrap .u32 (Int.tmod s96.1 100000000)) 10000)) 100)) * 2)) : Int).toNat 0).toNat : Nat) : Int)))) ((1 : Nat) + (IntKind.wrap .i64 (s96.2.1 - 3)) : Int) ((((k0_.getD ((IntKind.wrap .u32 (((IntKind.wrap .u32 (((IntKind.wrap .u32 (Int.tdiv ((Int.tmod (IntKind.wrap .u32 (Int.tmod s96.1 100000000)) 10000)) 100))) * 2))) + 1)) : Int).toNat 0).toNat : Nat) : Int)))) ((1 : Nat) + (IntKind.wrap .i64 (s96.2.1 - 4)) : Int) ((((k0_.getD ((IntKind.wrap .u32 (((IntKind.wrap .u32 (Int.tdiv ((Int.tmod (IntKind.wrap .u32 (Int.tmod s96.1 100000000)) 10000)) 100))) * 2)) : Int).toNat 0).toNat : Nat) : Int)))) ((1 : Nat) + (IntKind.wrap .i64 (s96.2.1 - 5)) : Int) ((((k0_.getD ((IntKind.wrap .u32 (((IntKind.wrap .u32 (((Int.tmod ((IntKind.wrap .u32 (Int.tdiv (IntKind.wrap .u32 (Int.tmod s96.1 100000000)) 10000))) 100)) * 2))) + 1)) : Int).toNat 0).toNat : Nat) : Int)))) ((1 : Nat) + (IntKind.wrap .i64 (s96.2.1 - 6)) : Int) ((((k0_.getD ((IntKind.wrap .u32 (((Int.tmod ((IntKind.wrap .u32 (Int.tdiv (IntKind.wrap .u32 (Int.tmod s96.1 100000000)) 10000))) 100)) * 2)) : Int).toNat 0).toNat : Nat) : Int)))) ((1 : Nat) + (IntKind.wrap .i64 (s96.2.1 - 7)) : Int) ((((k0_.getD ((IntKind.wrap .u32 (((IntKind.wrap .u32 (((IntKind.wrap .u32 (Int.tdiv ((IntKind.wrap .u32 (Int.tdiv (IntKind.wrap .u32 (Int.tmod s96.1 100000000)) 10000))) 100))) * 2))) + 1)) : Int).toNat 0).toNat : Nat) : Int)))).flatMap (encI .u8))]) (by kernel_rfl) (storeB_ok (encI_len .u8) hm) (fun hc => N.storeB (o := 1) (encI_len .u8) hm) (by kernel_rfl) ?_
   obtain ⟨hm, h182⟩ := asrt h181
   refine RJ.rel (d := (some 93)) (ef := ⟨.ptr 0 (1 + ((IntKind.wrap .i64 (s96.2.1 - 8)) : Int).toNat * 1), [], []⟩) (ef' := ⟨.ptr 0 (1 + ((IntKind.wrap .i64 (s96.2.1 - 8)) : Int).toNat * 1), [], []⟩) (c := inR (IntKind.wrap .i64 (s96.2.1 - 8)) x0.toNat) (tr2 := [([], []), ([], []), ([], []), ([], []), ([], []), ([], []), ([], []), ([], []), ([], []), ([], []), ([], []), ([], []), ([0, 1], [0]), ([], [])]) (H2 := [.box (((setAt ((setAt ((setAt ((setAt ((setAt ((setAt ((setAt s96.2.2 ((1 : Nat) + (IntKind.wrap .i64 (s96.2.1 - 1)) : Int) ((((k0_.getD ((IntKind.wrap .u32 (((IntKind.wrap .u32 (((Int.tmod ((Int.tmod (IntKind.wrap .u32 (Int.tmod s96.1 100000000)) 10000)) 100)) * 2))) + 1)) : Int).toNat 0).toNat : Nat) : Int)))) ((1 : Nat) + (IntKind.wrap .i64 (s96.2.1 - 2)) : Int) ((((k0_.getD ((IntKind.wrap .u32 (((Int.tmod ((Int.tmod (IntKind.wrap .u32 (Int.tmod s96.1 100000000)) 10000)) 100)) * 2)) : Int).toNat 0).toNat : Nat) : Int)))) ((1 : Nat) + (IntKind.wrap .i64 (s96.2.1 - 3)) : Int) ((((k0_.getD ((IntKind.wrap .u32 (((IntKind.wrap .u32 (((IntKind.wrap .u32 (Int.tdiv ((Int.tmod (IntKind.wrap .u32 (Int.tmod s96.1 100000000)) 10000)) 100))) * 2))) + 1)) : Int).toNat 0).toNat : Nat) : Int)))) ((1 : Nat) + (IntKind.wrap .i64 (s96.2.1 - 4)) : Int) ((((k0_.getD ((IntKind.wrap .u32 (((IntKind.wrap .u32 (Int.tdiv ((Int.tmod (IntKind.wrap .u32 (Int.tmod s96.1 100000000)) 10000)) 100))) * 2)) : Int).toNat 0).toNat : Nat) : Int)))) ((1 : Nat) + (IntKind.wrap .i64 (s96.2.1 - 5)) : Int) ((((k0_.getD ((IntKind.wrap .u32 (((IntKind.wrap .u32 (((Int.tmod ((IntKind.wrap .u32 (Int.tdiv (IntKind.wrap .u32 (Int.tmod s96.1 100000000)) 10000))) 100)) * 2))) + 1)) : Int).toNat 0).toNat : Nat) : Int)))) ((1 : Nat) + (IntKind.wrap .i64 (s96.2.1 - 6)) : Int) ((((k0_.getD ((IntKind.wrap .u32 (((Int.tmod ((IntKind.wrap .u32 (Int.tdiv (IntKind.wrap .u32 (Int.tmod s96.1 100000000)) 10000))) 100)) * 2)) : Int).toNat 0).toNat : Nat) : Int)))) ((1 : Nat) + (IntKind.wrap .i64 (s96.2.1 - 7)) : Int) ((((k0_.getD ((IntKind.wrap .u32 (((IntKind.wrap .u32 (((IntKind.wrap .u32 (Int.tdiv ((IntKind.wrap .u32 (Int.tdiv (IntKind.wrap .u32 (Int.tmod s96.1 100000000)) 10000))) 100))) * 2))) + 1)) : Int).toNat 0).toNat : Nat) : Int)))).flatMap (encI .u8))]) (by kernel_rfl) hm (fun hc => rfl) (by kernel_rfl) ?_
   obtain ⟨hm, h183⟩ := asrt h182
   refine RJ.relS (d := none) (ef := ⟨.undef, [0], [(0, .box (splice (((setAt ((setAt ((setAt ((setAt ((setAt ((setAt ((setAt s96.2.2 ((1 : Nat) + (IntKind.wrap .i64 (s96.2.1 - 1)) : Int) ((((k0_.getD ((IntKind.wrap .u32 (((IntKind.wrap .u32 (((Int.tmod ((Int.tmod (IntKind.wrap .u32 (Int.tmod s96.1 100000000)) 10000)) 100)) * 2))) + 1)) : Int).toNat 0).toNat : Nat) : Int)))) ((1 : Nat) + (IntKind.wrap .i64 (s96.2.1 - 2)) : Int) ((((k0_.getD ((IntKind.wrap .u32 (((Int.tmod ((Int.tmod (IntKind.wrap .u32 (Int.tmod s96.1 100000000)) 10000)) 100)) * 2)) : Int).toNat 0).toNat : Nat) : Int)))) ((1 : Nat) + (IntKind.wrap .i64 (s96.2.1 - 3)) : Int) ((((k0_.getD ((IntKind.wrap .u32 (((IntKind.wrap .u32 (((IntKind.wrap .u32 (Int.tdiv ((Int.tmod (IntKind.wrap .u32 (Int.tmod s96.1 100000000)) 10000)) 100))) * 2))) + 1)) : Int).toNat 0).toNat : Nat) : Int)))) ((1 : Nat) + (IntKind.wrap .i64 (s96.2.1 - 4)) : Int) ((((k0_.getD ((IntKind.wrap .u32 (((IntKind.wrap .u32 (Int.tdiv ((Int.tmod (IntKind.wrap .u32 (Int.tmod s96.1 100000000)) 10000)) 100))) * 2)) : Int).toNat 0).toNat : Nat) : Int)))) ((1 : Nat) + (IntKind.wrap .i64 (s96.2.1 - 5)) : Int) ((((k0_.getD ((IntKind.wrap .u32 (((IntKind.wrap .u32 (((Int.tmod ((IntKind.wrap .u32 (Int.tdiv (IntKind.wrap .u32 (Int.tmod s96.1 100000000)) 10000))) 100)) * 2))) + 1)) : Int).toNat 0).toNat : Nat) : Int)))) ((1 : Nat) + (IntKind.wrap .i64 (s96.2.1 - 6)) : Int) ((((k0_.getD ((IntKind.wrap .u32 (((Int.tmod ((IntKind.wrap .u32 (Int.tdiv (IntKind.wrap .u32 (Int.tmod s96.1 100000000)) 10000))) 100)) * 2)) : Int).toNat 0).toNat : Nat) : Int)))) ((1 : Nat) + (IntKind.wrap .i64 (s96.2.1 - 7)) : Int) ((((k0_.getD ((IntKind.wrap .u32 (((IntKind.wrap .u32 (((IntKind.wrap .u32 (Int.tdiv ((IntKind.wrap .u32 (Int.tdiv (IntKind.wrap .u32 (Int.tmod s96.1 100000000)) 10000))) 100))) * 2))) + 1)) : Int).toNat 0).toNat : Nat) : Int)))).flatMap (encI .u8)) (1 * 1 + ((IntKind.wrap .i64 (s96.2.1 - 8)) : Int).toNat * 1) ((encI .u8) ((((k0_.getD ((IntKind.wrap .u32 (((IntKind.wrap .u32 (Int.tdiv ((IntKind.wrap .u32 (Int.tdiv (IntKind.wrap .u32 (Int.tmod s96.1 100000000)) 10000))) 100))) * 2)) : Int).toNat 0).toNat : Nat) : Int)))))]⟩) (ef' := ⟨.undef, [0], [(0, .box ((setAt ((setAt ((setAt ((setAt ((setAt ((setAt ((setAt ((setAt s96.2.2 ((1 : Nat) + (IntKind.wrap .i64 (s96.2.1 - 1)) : Int) ((((k0_.getD ((IntKind.wrap .u32 (((IntKind.wrap .u32 (((Int.tmod ((Int.tmod (IntKind.wrap .u32 (Int.tmod s96.1 100000000)) 10000)) 100)) * 2))) + 1)) : Int).toNat 0).toNat : Nat) : Int)))) ((1 : Nat) + (IntKind.wrap .i64 (s96.2.1 - 2)) : Int) ((((k0_.getD ((IntKind.wrap .u32 (((Int.tmod ((Int.tmod (IntKind.wrap .u32 (Int.tmod s96.1 100000000)) 10000)) 100)) * 2)) : Int).toNat 0).toNat : Nat) : Int)))) ((1 : Nat) + (IntKind.wrap .i64 (s96.2.1 - 3)) : Int) ((((k0_.getD ((IntKind.wrap .u32 (((IntKind.wrap .u32 (((IntKind.wrap .u32 (Int.tdiv ((Int.tmod (IntKind.wrap .u32 (Int.tmod s96.1 100000000)) 10000)) 100))) * 2))) + 1)) : Int).toNat 0).toNat : Nat) : Int)))) ((1 : Nat) + (IntKind.wrap .i64 (s96.2.1 - 4)) : Int) ((((k0_.getD ((IntKind.wrap .u32 (((IntKind.wrap .u32 (Int.tdiv ((Int.tmod (IntKind.wrap .u32 (Int.tmod s96.1 100000000)) 10000)) 100))) * 2)) : Int).toNat 0).toNat : Nat) : Int)))) ((1 : Nat) + (IntKind.wrap .i64 (s96.2.1 - 5)) : Int) ((((k0_.getD ((IntKind.wrap .u32 (((IntKind.wrap .u32 (((Int.tmod ((IntKind.wrap .u32 (Int.tdiv (IntKind.wrap .u32 (Int.tmod s96.1 100000000)) 10000))) 100)) * 2))) + 1)) : Int).toNat 0).toNat : Nat) : Int)))) ((1 : Nat) + (IntKind.wrap .i64 (s96.2.1 - 6)) : Int) ((((k0_.getD ((IntKind.wrap .u32 (((Int.tmod ((IntKind.wrap .u32 (Int.tdiv (IntKind.wrap .u32 (Int.tmod s96.1 100000000)) 10000))) 100)) * 2)) : Int).toNat 0).toNat : Nat) : Int)))) ((1 : Nat) + (IntKind.wrap .i64 (s96.2.1 - 7)) : Int) ((((k0_.getD ((IntKind.wrap .u32 (((IntKind.wrap .u32 (((IntKind.wrap .u32 (Int.tdiv ((IntKind.wrap .u32 (Int.tdiv (IntKind.wrap .u32 (Int.tmod s96.1 100000000)) 10000))) 100))) * 2))) + 1)) : Int).toNat 0).toNat : Nat) : Int)))) ((1 : Nat) + (IntKind.wrap .i64 (s96.2.1 - 8)) : Int) ((((k0_.getD ((IntKind.wrap .u32 (((IntKind.wrap .u32 (Int.tdiv ((IntKind.wrap .u32 (Int.tdiv (IntKind.wrap .u32 (Int.tmod s96.1 100000000)) 10000))) 100))) * 2)) : Int).toNat 0).toNat : Nat) : Int))).flatMap (encI .u8)))]⟩) (c := Nat.ble (1 * 1 + ((IntKind.wrap .i64 (s96.2.1 - 8)) : Int).toNat * 1 + ((encI .u8) ((((k0_.getD ((IntKind.wrap .u32 (((IntKind.wrap .u32 (Int.tdiv ((IntKind.wrap .u32 (Int.tdiv (IntKind.wrap .u32 (Int.tmod s96.1 100000000)) 10000))) 100))) * 2)) : Int).toNat 0).toNat : Nat) : Int))).length) (((setAt ((setAt ((setAt ((setAt ((setAt ((setAt ((setAt s96.2.2 ((1 : Nat) + (IntKind.wrap .i64 (s96.2.1 - 1)) : Int) ((((k0_.getD ((IntKind.wrap .u32 (((IntKind.wrap .u32 (((Int.tmod ((Int.tmod (IntKind.wrap .u32 (Int.tmod s96.1 100000000)) 10000)) 100)) * 2))) + 1)) : Int).toNat 0).toNat : Nat) : Int)))) ((1 : Nat) + (IntKind.wrap .i64 (s96.2.1 - 2)) : Int) ((((k0_.getD ((IntKind.wrap .u32 (((Int.tmod ((Int.tmod (IntKind.wrap .u32 (Int.tmod s96.1 100000000)) 10000)) 100)) * 2)) : Int).toNat 0).toNat : Nat) : Int)))) ((1 : Nat) + (IntKind.wrap .i64 (s96.2.1 - 3)) : Int) ((((k0_.getD ((IntKind.wrap .u32 (((IntKind.wrap .u32 (((IntKind.wrap .u32 (Int.tdiv ((Int.tmod (IntKind.wrap .u32 (Int.tmod s96.1 100000000)) 10000)) 100))) * 2))) + 1)) : Int).toNat 0).toNat : Nat) : Int)))) ((1 : Nat) + (IntKind.wrap .i64 (s96.2.1 - 4)) : Int) ((((k0_.getD ((IntKind.wrap .u32 (((IntKind.wrap .u32 (Int.tdiv ((Int.tmod (IntKind.wrap .u32 (Int.tmod s96.1 100000000)) 10000)) 100))) * 2)) : Int).toNat 0).toNat : Nat) : Int)))) ((1 : Nat) + (IntKind.wrap .i64 (s96.2.1 - 5)) : Int) ((((k0_.getD ((IntKind.wrap .u32 (((IntKind.wrap .u32 (((Int.tmod ((IntKind.wrap .u32 (Int.tdiv (IntKind.wrap .u32 (Int.tmod s96.1 100000000)) 10000))) 100)) * 2))) + 1)) : Int).toNat 0).toNat : Nat) : Int)))) ((1 : Nat) + (IntKind.wrap .i64 (s96.2.1 - 6)) : Int) ((((k0_.getD ((IntKind.wrap .u32 (((Int.tmod ((IntKind.wrap .u32 (Int.tdiv (IntKind.wrap .u32 (Int.tmod s96.1 100000000)) 10000))) 100)) * 2)) : Int).toNat 0).toNat : Nat) : Int)))) ((1 : Nat) + (IntKind.wrap .i64 (s96.2.1 - 7)) : Int) ((((k0_.getD ((IntKind.wrap .u32 (((IntKind.wrap .u32 (((IntKind.wrap .u32 (Int.tdiv ((IntKind.wrap .u32 (Int.tdiv (IntKind.wrap .u32 (Int.tmod s96.1 100000000)) 10000))) 100))) * 2))) + 1)) : Int).toNat 0).toNat : Nat) : Int)))).flatMap (encI .u8)).length) (tr2 := [([], []), ([], []), ([], []), ([], []), ([], []), ([], []), ([], []), ([], []), ([], []), ([], []), ([], []), ([], []), ([0, 1], [0]), ([], []), ([0, 1], [0])]) (H2 := [.box (((setAt ((setAt ((setAt ((setAt ((setAt ((setAt ((setAt ((setAt s96.2.2 ((1 : Nat) + (IntKind.wrap .i64 (s96.2.1 - 1)) : Int) ((((k0_.getD ((IntKind.wrap .u32 (((IntKind.wrap .u32 (((Int.tmod ((Int.tmod (IntKind.wrap .u32 (Int.tmod s96.1 100000000)) 10000)) 100)) * 2))) + 1)) : Int).toNat 0).toNat : Nat) : Int)))) ((1 : Nat) + (IntKind.wrap .i64 (s96.2.1 - 2)) : Int) ((((k0_.getD ((IntKind.wrap .u32 (((Int.tmod ((Int.tmod (IntKind.wrap .u32 (Int.tmod s96.1 100000000)) 10000)) 100)) * 2)) : Int).toNat 0).toNat : Nat) : Int)))) ((1 : Nat) + (IntKind.wrap .i64 (s96.2.1 - 3)) : Int) ((((k0_.getD ((IntKind.wrap .u32 (((IntKind.wrap .u32 (((IntKind.wrap .u32 (Int.tdiv ((Int.tmod (IntKind.wrap .u32 (Int.tmod s96.1 100000000)) 10000)) 100))) * 2))) + 1)) : Int).toNat 0).toNat : Nat) : Int)))) ((1 : Nat) + (IntKind.wrap .i64 (s96.2.1 - 4)) : Int) ((((k0_.getD ((IntKind.wrap .u32 (((IntKind.wrap .u32 (Int.tdiv ((Int.tmod (IntKind.wrap .u32 (Int.tmod s96.1 100000000)) 10000)) 100))) * 2)) : Int).toNat 0).toNat : Nat) : Int)))) ((1 : Nat) + (IntKind.wrap .i64 (s96.2.1 - 5)) : Int) ((((k0_.getD ((IntKind.wrap .u32 (((IntKind.wrap .u32 (((Int.tmod ((IntKind.wrap .u32 (Int.tdiv (IntKind.wrap .u32 (Int.tmod s96.1 100000000)) 10000))) 100)) * 2))) + 1)) : Int).toNat 0).toNat : Nat) : Int)))) ((1 : Nat) + (IntKind.wrap .i64 (s96.2.1 - 6)) : Int) ((((k0_.getD ((IntKind.wrap .u32 (((Int.tmod ((IntKind.wrap .u32 (Int.tdiv (IntKind.wrap .u32 (Int.tmod s96.1 100000000)) 10000))) 100)) * 2)) : Int).toNat 0).toNat : Nat) : Int)))) ((1 : Nat) + (IntKind.wrap .i64 (s96.2.1 - 7)) : Int) ((((k0_.getD ((IntKind.wrap .u32 (((IntKind.wrap .u32 (((IntKind.wrap .u32 (Int.tdiv ((IntKind.wrap .u32 (Int.tdiv (IntKind.wrap .u32 (Int.tmod s96.1 100000000)) 10000))) 100))) * 2))) + 1)) : Int).toNat 0).toNat : Nat) : Int)))) ((1 : Nat) + (IntKind.wrap .i64 (s96.2.1 - 8)) : Int) ((((k0_.getD ((IntKind.wrap .u32 (((IntKind.wrap .u32 (Int.tdiv ((IntKind.wrap .u32 (Int.tdiv (IntKind.wrap .u32 (Int.tmod s96.1 100000000)) 10000))) 100))) * 2)) : Int).toNat 0).toNat : Nat) : Int)))).flatMap (encI .u8))]) (by kernel_rfl) (storeB_ok (encI_len .u8) hm) (fun hc => N.storeB (o := 1) (encI_len .u8) hm) (by kernel_rfl) ?_
   refine kEN ?_
   refine kR ?_
   refine kC 3 [0,1,4] ?_
   refine kE ?_
   refine PJ.blockNormal ?_
   obtain rfl := oi h183
   exact PJ.loopNext [0, 1, 4] (by kernel_rfl) (by kernel_rfl)
  ·have h159 := condF hb157 hs155
   refine kF ?_
   refine K.exit 0 (by kernel_rfl) ?_
   refine PJ.passExit ?_
   obtain rfl := oi h159
   refine PJ.loopOut (fun e => nomatch e) (fun he185 => ?_)
   have h184 := congrArg some he185
   refine PJ.blockOut ?_
   obtain rfl := oi h184
   exact kN [0, 1, 4]
 ·refine kSR ?_
  refine kC 3 [0,4,12] ?_
  refine kEN ?_
  obtain ⟨s201, hy203, h205⟩ := bindS h95
  refine K.cutN (by kernel_rfl) (fun (s201 : Int × Int × (List Int)) => ([(0, .sl 0 1 x0.toNat 1), (4, .int .i64 s201.1), (12, .int .u32 s201.2.1)], [.box (s201.2.2.flatMap (encI .u8))])) s201 ?_ ?_
  ·refine kSR ?_
   refine kC 2 [0,4,12,99] ?_
   refine kEN ?_
   refine J.caseB 99 (b := (decide (s91.2.1 ≥ 4))) (by kernel_rfl) (fun hb206 => ?_) (fun hb206 => ?_)
   ·have h207 := condT hb206 hy203
    refine kT ?_
    refine kSR ?_
    refine kC 3 [0,4,12,13] ?_
    refine kEN ?_
    refine kSR ?_
    refine RJ.seg 3 [0, 4, 12, 13] (L2 := [(0, .sl 0 1 x0.toNat 1), (4, .int .i64 s91.2.1), (12, .int .u32 ((IntKind.wrap .u32 (Int.tdiv (IntKind.wrap .u32 s91.1) 10000)))), (13, .int .u32 (Int.tmod (IntKind.wrap .u32 s91.1) 10000))]) (H2 := [.box (s91.2.2.flatMap (encI .u8))]) (by kernel_rfl) ?_
    refine kEN ?_
    refine kSR ?_
    refine kC 8 [0,4,12,14,15] ?_
    refine kEN ?_
    refine kS ?_
    refine J.keep [0, 4, 12, 14, 15] (L2 := [(0, .sl 0 1 x0.toNat 1), (4, .int .i64 s91.2.1), (12, .int .u32 ((IntKind.wrap .u32 (Int.tdiv (IntKind.wrap .u32 s91.1) 10000)))), (14, .int .u32 ((IntKind.wrap .u32 (((IntKind.wrap .u32 (Int.tdiv (Int.tmod (IntKind.wrap .u32 s91.1) 10000) 100))) * 2)))), (15, .int .u32 ((IntKind.wrap .u32 (((Int.tmod (Int.tmod (IntKind.wrap .u32 s91.1) 10000) 100)) * 2))))]) (by kernel_rfl) ?_
    refine K.draw (by kernel_rfl) (by kernel_rfl) (by kernel_rfl) (H2 := [.box (s91.2.2.flatMap (encI .u8))]) (by kernel_rfl) (n := 1) (by kernel_rfl) ?_
    refine kD 8 ?_
    obtain ⟨hm, h209⟩ := asrt h207
    refine RJ.rel (d := (some 118)) (ef := ⟨.int .u8 (((k0_.getD ((IntKind.wrap .u32 (((IntKind.wrap .u32 (((Int.tmod (Int.tmod (IntKind.wrap .u32 s91.1) 10000) 100)) * 2))) + 1)) : Int).toNat 0).toNat : Nat) : Int), [], []⟩) (ef' := ⟨.int .u8 (((k0_.getD ((IntKind.wrap .u32 (((IntKind.wrap .u32 (((Int.tmod (Int.tmod (IntKind.wrap .u32 s91.1) 10000) 100)) * 2))) + 1)) : Int).toNat 0).toNat : Nat) : Int), [], []⟩) (c := inR ((IntKind.wrap .u32 (((IntKind.wrap .u32 (((Int.tmod (Int.tmod (IntKind.wrap .u32 s91.1) 10000) 100)) * 2))) + 1))) k0_.length) (tr2 := [([], []), ([], []), ([], []), ([], []), ([], []), ([], []), ([], []), ([], []), ([], [])]) (H2 := [.box (s91.2.2.flatMap (encI .u8))]) (by kernel_rfl) hm (fun hc => rfl) (by kernel_rfl) ?_
    refine kD 1 ?_
    obtain ⟨hm, h210⟩ := asrt h209
    refine RJ.rel (d := (some 120)) (ef := ⟨.int .u8 (((k0_.getD ((IntKind.wrap .u32 (((Int.tmod (Int.tmod (IntKind.wrap .u32 s91.1) 10000) 100)) * 2)) : Int).toNat 0).toNat : Nat) : Int), [], []⟩) (ef' := ⟨.int .u8 (((k0_.getD ((IntKind.wrap .u32 (((Int.tmod (Int.tmod (IntKind.wrap .u32 s91.1) 10000) 100)) * 2)) : Int).toNat 0).toNat : Nat) : Int), [], []⟩) (c := inR ((IntKind.wrap .u32 (((Int.tmod (Int.tmod (IntKind.wrap .u32 s91.1) 10000) 100)) * 2))) k0_.length) (tr2 := [([], []), ([], []), ([], []), ([], []), ([], []), ([], []), ([], []), ([], []), ([], []), ([], []), ([], [])]) (H2 := [.box (s91.2.2.flatMap (encI .u8))]) (by kernel_rfl) hm (fun hc => rfl) (by kernel_rfl) ?_
    obtain ⟨hm, h211⟩ := asrt h210
    refine RJ.rel (d := (some 121)) (ef := ⟨.ptr 0 (1 + ((IntKind.wrap .i64 (s91.2.1 - 1)) : Int).toNat * 1), [], []⟩) (ef' := ⟨.ptr 0 (1 + ((IntKind.wrap .i64 (s91.2.1 - 1)) : Int).toNat * 1), [], []⟩) (c := inR (IntKind.wrap .i64 (s91.2.1 - 1)) x0.toNat) (tr2 := [([], []), ([], []), ([], []), ([], []), ([], []), ([], []), ([], []), ([], []), ([], []), ([], []), ([], []), ([], [])]) (H2 := [.box (s91.2.2.flatMap (encI .u8))]) (by kernel_rfl) hm (fun hc => rfl) (by kernel_rfl) ?_
    obtain ⟨hm, h212⟩ := asrt h211
    refine RJ.relS (d := none) (ef := ⟨.undef, [0], [(0, .box (splice (s91.2.2.flatMap (encI .u8)) (1 * 1 + ((IntKind.wrap .i64 (s91.2.1 - 1)) : Int).toNat * 1) ((encI .u8) ((((k0_.getD ((IntKind.wrap .u32 (((IntKind.wrap .u32 (((Int.tmod (Int.tmod (IntKind.wrap .u32 s91.1) 10000) 100)) * 2))) + 1)) : Int).toNat 0).toNat : Nat) : Int)))))]⟩) (ef' := ⟨.undef, [0], [(0, .box ((setAt s91.2.2 ((1 : Nat) + (IntKind.wrap .i64 (s91.2.1 - 1)) : Int) ((((k0_.getD ((IntKind.wrap .u32 (((IntKind.wrap .u32 (((Int.tmod (Int.tmod (IntKind.wrap .u32 s91.1) 10000) 100)) * 2))) + 1)) : Int).toNat 0).toNat : Nat) : Int))).flatMap (encI .u8)))]⟩) (c := Nat.ble (1 * 1 + ((IntKind.wrap .i64 (s91.2.1 - 1)) : Int).toNat * 1 + ((encI .u8) ((((k0_.getD ((IntKind.wrap .u32 (((IntKind.wrap .u32 (((Int.tmod (Int.tmod (IntKind.wrap .u32 s91.1) 10000) 100)) * 2))) + 1)) : Int).toNat 0).toNat : Nat) : Int))).length) (s91.2.2.flatMap (encI .u8)).length) (tr2 := [([], []), ([], []), ([], []), ([], []), ([], []), ([], []), ([], []), ([], []), ([], []), ([], []), ([], []), ([], []), ([0, 1], [0])]) (H2 := [.box (((setAt s91.2.2 ((1 : Nat) + (IntKind.wrap .i64 (s91.2.1 - 1)) : Int) ((((k0_.getD ((IntKind.wrap .u32 (((IntKind.wrap .u32 (((Int.tmod (Int.tmod (IntKind.wrap .u32 s91.1) 10000) 100)) * 2))) + 1)) : Int).toNat 0).toNat : Nat) : Int)))).flatMap (encI .u8))]) (by kernel_rfl) (storeB_ok (encI_len .u8) hm) (fun hc => N.storeB (o := 1) (encI_len .u8) hm) (by kernel_rfl) ?_
    obtain ⟨hm, h213⟩ := asrt h212
    refine RJ.rel (d := (some 122)) (ef := ⟨.ptr 0 (1 + ((IntKind.wrap .i64 (s91.2.1 - 2)) : Int).toNat * 1), [], []⟩) (ef' := ⟨.ptr 0 (1 + ((IntKind.wrap .i64 (s91.2.1 - 2)) : Int).toNat * 1), [], []⟩) (c := inR (IntKind.wrap .i64 (s91.2.1 - 2)) x0.toNat) (tr2 := [([], []), ([], []), ([], []), ([], []), ([], []), ([], []), ([], []), ([], []), ([], []), ([], []), ([], []), ([], []), ([0, 1], [0]), ([], [])]) (H2 := [.box (((setAt s91.2.2 ((1 : Nat) + (IntKind.wrap .i64 (s91.2.1 - 1)) : Int) ((((k0_.getD ((IntKind.wrap .u32 (((IntKind.wrap .u32 (((Int.tmod (Int.tmod (IntKind.wrap .u32 s91.1) 10000) 100)) * 2))) + 1)) : Int).toNat 0).toNat : Nat) : Int)))).flatMap (encI .u8))]) (by kernel_rfl) hm (fun hc => rfl) (by kernel_rfl) ?_
    obtain ⟨hm, h214⟩ := asrt h213
    refine RJ.relS (d := none) (ef := ⟨.undef, [0], [(0, .box (splice (((setAt s91.2.2 ((1 : Nat) + (IntKind.wrap .i64 (s91.2.1 - 1)) : Int) ((((k0_.getD ((IntKind.wrap .u32 (((IntKind.wrap .u32 (((Int.tmod (Int.tmod (IntKind.wrap .u32 s91.1) 10000) 100)) * 2))) + 1)) : Int).toNat 0).toNat : Nat) : Int)))).flatMap (encI .u8)) (1 * 1 + ((IntKind.wrap .i64 (s91.2.1 - 2)) : Int).toNat * 1) ((encI .u8) ((((k0_.getD ((IntKind.wrap .u32 (((Int.tmod (Int.tmod (IntKind.wrap .u32 s91.1) 10000) 100)) * 2)) : Int).toNat 0).toNat : Nat) : Int)))))]⟩) (ef' := ⟨.undef, [0], [(0, .box ((setAt ((setAt s91.2.2 ((1 : Nat) + (IntKind.wrap .i64 (s91.2.1 - 1)) : Int) ((((k0_.getD ((IntKind.wrap .u32 (((IntKind.wrap .u32 (((Int.tmod (Int.tmod (IntKind.wrap .u32 s91.1) 10000) 100)) * 2))) + 1)) : Int).toNat 0).toNat : Nat) : Int)))) ((1 : Nat) + (IntKind.wrap .i64 (s91.2.1 - 2)) : Int) ((((k0_.getD ((IntKind.wrap .u32 (((Int.tmod (Int.tmod (IntKind.wrap .u32 s91.1) 10000) 100)) * 2)) : Int).toNat 0).toNat : Nat) : Int))).flatMap (encI .u8)))]⟩) (c := Nat.ble (1 * 1 + ((IntKind.wrap .i64 (s91.2.1 - 2)) : Int).toNat * 1 + ((encI .u8) ((((k0_.getD ((IntKind.wrap .u32 (((Int.tmod (Int.tmod (IntKind.wrap .u32 s91.1) 10000) 100)) * 2)) : Int).toNat 0).toNat : Nat) : Int))).length) (((setAt s91.2.2 ((1 : Nat) + (IntKind.wrap .i64 (s91.2.1 - 1)) : Int) ((((k0_.getD ((IntKind.wrap .u32 (((IntKind.wrap .u32 (((Int.tmod (Int.tmod (IntKind.wrap .u32 s91.1) 10000) 100)) * 2))) + 1)) : Int).toNat 0).toNat : Nat) : Int)))).flatMap (encI .u8)).length) (tr2 := [([], []), ([], []), ([], []), ([], []), ([], []), ([], []), ([], []), ([], []), ([], []), ([], []), ([], []), ([], []), ([0, 1], [0]), ([], []), ([0, 1], [0])]) (H2 := [.box (((setAt ((setAt s91.2.2 ((1 : Nat) + (IntKind.wrap .i64 (s91.2.1 - 1)) : Int) ((((k0_.getD ((IntKind.wrap .u32 (((IntKind.wrap .u32 (((Int.tmod (Int.tmod (IntKind.wrap .u32 s91.1) 10000) 100)) * 2))) + 1)) : Int).toNat 0).toNat : Nat) : Int)))) ((1 : Nat) + (IntKind.wrap .i64 (s91.2.1 - 2)) : Int) ((((k0_.getD ((IntKind.wrap .u32 (((Int.tmod (Int.tmod (IntKind.wrap .u32 s91.1) 10000) 100)) * 2)) : Int).toNat 0).toNat : Nat) : Int)))).flatMap (encI .u8))]) (by kernel_rfl) (storeB_ok (encI_len .u8) hm) (fun hc => N.storeB (o := 1) (encI_len .u8) hm) (by kernel_rfl) ?_
    refine kEN ?_
    refine kS ?_
    refine J.keep [0, 4, 12, 14] (L2 := [(0, .sl 0 1 x0.toNat 1), (4, .int .i64 s91.2.1), (12, .int .u32 ((IntKind.wrap .u32 (Int.tdiv (IntKind.wrap .u32 s91.1) 10000)))), (14, .int .u32 ((IntKind.wrap .u32 (((IntKind.wrap .u32 (Int.tdiv (Int.tmod (IntKind.wrap .u32 s91.1) 10000) 100))) * 2))))]) (by kernel_rfl) ?_
    refine K.draw (by kernel_rfl) (by kernel_rfl) (by kernel_rfl) (H2 := [.box (((setAt ((setAt s91.2.2 ((1 : Nat) + (IntKind.wrap .i64 (s91.2.1 - 1)) : Int) ((((k0_.getD ((IntKind.wrap .u32 (((IntKind.wrap .u32 (((Int.tmod (Int.tmod (IntKind.wrap .u32 s91.1) 10000) 100)) * 2))) + 1)) : Int).toNat 0).toNat : Nat) : Int)))) ((1 : Nat) + (IntKind.wrap .i64 (s91.2.1 - 2)) : Int) ((((k0_.getD ((IntKind.wrap .u32 (((Int.tmod (Int.tmod (IntKind.wrap .u32 s91.1) 10000) 100)) * 2)) : Int).toNat 0).toNat : Nat) : Int)))).flatMap (encI .u8))]) (by kernel_rfl) (n := 1) (by kernel_rfl) ?_
    refine RJ.segD 8 (tr2 := [([], []), ([], []), ([], []), ([], []), ([], []), ([], []), ([], []), ([], [])]) (L2 := [(130, .int .u32 ((IntKind.wrap .u32 (((IntKind.wrap .u32 (((IntKind.wrap .u32 (Int.tdiv (Int.tmod (IntKind.wrap .u32 s91.1) 10000) 100))) * 2))) + 1)))), (129, .int .u32 ((IntKind.wrap .u32 (((IntKind.wrap .u32 (Int.tdiv (Int.tmod (IntKind.wrap .u32 s91.1) 10000) 100))) * 2)))), (128, .int .i64 (IntKind.wrap .i64 (s91.2.1 - 4))), (127, .int .i64 s91.2.1), (126, .sl 0 1 x0.toNat 1), (125, .int .i64 (IntKind.wrap .i64 (s91.2.1 - 3))), (124, .int .i64 s91.2.1), (123, .sl 0 1 x0.toNat 1), (0, .sl 0 1 x0.toNat 1), (4, .int .i64 s91.2.1), (12, .int .u32 ((IntKind.wrap .u32 (Int.tdiv (IntKind.wrap .u32 s91.1) 10000)))), (14, .int .u32 ((IntKind.wrap .u32 (((IntKind.wrap .u32 (Int.tdiv (Int.tmod (IntKind.wrap .u32 s91.1) 10000) 100))) * 2))))]) (H2 := [.box (((setAt ((setAt s91.2.2 ((1 : Nat) + (IntKind.wrap .i64 (s91.2.1 - 1)) : Int) ((((k0_.getD ((IntKind.wrap .u32 (((IntKind.wrap .u32 (((Int.tmod (Int.tmod (IntKind.wrap .u32 s91.1) 10000) 100)) * 2))) + 1)) : Int).toNat 0).toNat : Nat) : Int)))) ((1 : Nat) + (IntKind.wrap .i64 (s91.2.1 - 2)) : Int) ((((k0_.getD ((IntKind.wrap .u32 (((Int.tmod (Int.tmod (IntKind.wrap .u32 s91.1) 10000) 100)) * 2)) : Int).toNat 0).toNat : Nat) : Int)))).flatMap (encI .u8))]) (by kernel_rfl) ?_
    obtain ⟨hm, h215⟩ := asrt h214
    refine RJ.rel (d := (some 131)) (ef := ⟨.int .u8 (((k0_.getD ((IntKind.wrap .u32 (((IntKind.wrap .u32 (((IntKind.wrap .u32 (Int.tdiv (Int.tmod (IntKind.wrap .u32 s91.1) 10000) 100))) * 2))) + 1)) : Int).toNat 0).toNat : Nat) : Int), [], []⟩) (ef' := ⟨.int .u8 (((k0_.getD ((IntKind.wrap .u32 (((IntKind.wrap .u32 (((IntKind.wrap .u32 (Int.tdiv (Int.tmod (IntKind.wrap .u32 s91.1) 10000) 100))) * 2))) + 1)) : Int).toNat 0).toNat : Nat) : Int), [], []⟩) (c := inR ((IntKind.wrap .u32 (((IntKind.wrap .u32 (((IntKind.wrap .u32 (Int.tdiv (Int.tmod (IntKind.wrap .u32 s91.1) 10000) 100))) * 2))) + 1))) k0_.length) (tr2 := [([], []), ([], []), ([], []), ([], []), ([], []), ([], []), ([], []), ([], []), ([], [])]) (H2 := [.box (((setAt ((setAt s91.2.2 ((1 : Nat) + (IntKind.wrap .i64 (s91.2.1 - 1)) : Int) ((((k0_.getD ((IntKind.wrap .u32 (((IntKind.wrap .u32 (((Int.tmod (Int.tmod (IntKind.wrap .u32 s91.1) 10000) 100)) * 2))) + 1)) : Int).toNat 0).toNat : Nat) : Int)))) ((1 : Nat) + (IntKind.wrap .i64 (s91.2.1 - 2)) : Int) ((((k0_.getD ((IntKind.wrap .u32 (((Int.tmod (Int.tmod (IntKind.wrap .u32 s91.1) 10000) 100)) * 2)) : Int).toNat 0).toNat : Nat) : Int)))).flatMap (encI .u8))]) (by kernel_rfl) hm (fun hc => rfl) (by kernel_rfl) ?_
    refine kD 1 ?_
    obtain ⟨hm, h216⟩ := asrt h215
    refine RJ.rel (d := (some 133)) (ef := ⟨.int .u8 (((k0_.getD ((IntKind.wrap .u32 (((IntKind.wrap .u32 (Int.tdiv (Int.tmod (IntKind.wrap .u32 s91.1) 10000) 100))) * 2)) : Int).toNat 0).toNat : Nat) : Int), [], []⟩) (ef' := ⟨.int .u8 (((k0_.getD ((IntKind.wrap .u32 (((IntKind.wrap .u32 (Int.tdiv (Int.tmod (IntKind.wrap .u32 s91.1) 10000) 100))) * 2)) : Int).toNat 0).toNat : Nat) : Int), [], []⟩) (c := inR ((IntKind.wrap .u32 (((IntKind.wrap .u32 (Int.tdiv (Int.tmod (IntKind.wrap .u32 s91.1) 10000) 100))) * 2))) k0_.length) (tr2 := [([], []), ([], []), ([], []), ([], []), ([], []), ([], []), ([], []), ([], []), ([], []), ([], []), ([], [])]) (H2 := [.box (((setAt ((setAt s91.2.2 ((1 : Nat) + (IntKind.wrap .i64 (s91.2.1 - 1)) : Int) ((((k0_.getD ((IntKind.wrap .u32 (((IntKind.wrap .u32 (((Int.tmod (Int.tmod (IntKind.wrap .u32 s91.1) 10000) 100)) * 2))) + 1)) : Int).toNat 0).toNat : Nat) : Int)))) ((1 : Nat) + (IntKind.wrap .i64 (s91.2.1 - 2)) : Int) ((((k0_.getD ((IntKind.wrap .u32 (((Int.tmod (Int.tmod (IntKind.wrap .u32 s91.1) 10000) 100)) * 2)) : Int).toNat 0).toNat : Nat) : Int)))).flatMap (encI .u8))]) (by kernel_rfl) hm (fun hc => rfl) (by kernel_rfl) ?_
    obtain ⟨hm, h217⟩ := asrt h216
    refine RJ.rel (d := (some 134)) (ef := ⟨.ptr 0 (1 + ((IntKind.wrap .i64 (s91.2.1 - 3)) : Int).toNat * 1), [], []⟩) (ef' := ⟨.ptr 0 (1 + ((IntKind.wrap .i64 (s91.2.1 - 3)) : Int).toNat * 1), [], []⟩) (c := inR (IntKind.wrap .i64 (s91.2.1 - 3)) x0.toNat) (tr2 := [([], []), ([], []), ([], []), ([], []), ([], []), ([], []), ([], []), ([], []), ([], []), ([], []), ([], []), ([], [])]) (H2 := [.box (((setAt ((setAt s91.2.2 ((1 : Nat) + (IntKind.wrap .i64 (s91.2.1 - 1)) : Int) ((((k0_.getD ((IntKind.wrap .u32 (((IntKind.wrap .u32 (((Int.tmod (Int.tmod (IntKind.wrap .u32 s91.1) 10000) 100)) * 2))) + 1)) : Int).toNat 0).toNat : Nat) : Int)))) ((1 : Nat) + (IntKind.wrap .i64 (s91.2.1 - 2)) : Int) ((((k0_.getD ((IntKind.wrap .u32 (((Int.tmod (Int.tmod (IntKind.wrap .u32 s91.1) 10000) 100)) * 2)) : Int).toNat 0).toNat : Nat) : Int)))).flatMap (encI .u8))]) (by kernel_rfl) hm (fun hc => rfl) (by kernel_rfl) ?_
    obtain ⟨hm, h218⟩ := asrt h217
    refine RJ.relS (d := none) (ef := ⟨.undef, [0], [(0, .box (splice (((setAt ((setAt s91.2.2 ((1 : Nat) + (IntKind.wrap .i64 (s91.2.1 - 1)) : Int) ((((k0_.getD ((IntKind.wrap .u32 (((IntKind.wrap .u32 (((Int.tmod (Int.tmod (IntKind.wrap .u32 s91.1) 10000) 100)) * 2))) + 1)) : Int).toNat 0).toNat : Nat) : Int)))) ((1 : Nat) + (IntKind.wrap .i64 (s91.2.1 - 2)) : Int) ((((k0_.getD ((IntKind.wrap .u32 (((Int.tmod (Int.tmod (IntKind.wrap .u32 s91.1) 10000) 100)) * 2)) : Int).toNat 0).toNat : Nat) : Int)))).flatMap (encI .u8)) (1 * 1 + ((IntKind.wrap .i64 (s91.2.1 - 3)) : Int).toNat * 1) ((encI .u8) ((((k0_.getD ((IntKind.wrap .u32 (((IntKind.wrap .u32 (((IntKind.wrap .u32 (Int.tdiv (Int.tmod (IntKind.wrap .u32 s91.1) 10000) 100))) * 2))) + 1)) : Int).toNat 0).toNat : Nat) : Int)))))]⟩) (ef' := ⟨.undef, [0], [(0, .box ((setAt ((setAt ((setAt s91.2.2 ((1 : Nat) + (IntKind.wrap .i64 (s91.2.1 - 1)) : Int) ((((k0_.getD ((IntKind.wrap .u32 (((IntKind.wrap .u32 (((Int.tmod (Int.tmod (IntKind.wrap .u32 s91.1) 10000) 100)) * 2))) + 1)) : Int).toNat 0).toNat : Nat) : Int)))) ((1 : Nat) + (IntKind.wrap .i64 (s91.2.1 - 2)) : Int) ((((k0_.getD ((IntKind.wrap .u32 (((Int.tmod (Int.tmod (IntKind.wrap .u32 s91.1) 10000) 100)) * 2)) : Int).toNat 0).toNat : Nat) : Int)))) ((1 : Nat) + (IntKind.wrap .i64 (s91.2.1 - 3)) : Int) ((((k0_.getD ((IntKind.wrap .u32 (((IntKind.wrap .u32 (((IntKind.wrap .u32 (Int.tdiv (Int.tmod (IntKind.wrap .u32 s91.1) 10000) 100))) * 2))) + 1)) : Int).toNat 0).toNat : Nat) : Int))).flatMap (encI .u8)))]⟩) (c := Nat.ble (1 * 1 + ((IntKind.wrap .i64 (s91.2.1 - 3)) : Int).toNat * 1 + ((encI .u8) ((((k0_.getD ((IntKind.wrap .u32 (((IntKind.wrap .u32 (((IntKind.wrap .u32 (Int.tdiv (Int.tmod (IntKind.wrap .u32 s91.1) 10000) 100))) * 2))) + 1)) : Int).toNat 0).toNat : Nat) : Int))).length) (((setAt ((setAt s91.2.2 ((1 : Nat) + (IntKind.wrap .i64 (s91.2.1 - 1)) : Int) ((((k0_.getD ((IntKind.wrap .u32 (((IntKind.wrap .u32 (((Int.tmod (Int.tmod (IntKind.wrap .u32 s91.1) 10000) 100)) * 2))) + 1)) : Int).toNat 0).toNat : Nat) : Int)))) ((1 : Nat) + (IntKind.wrap .i64 (s91.2.1 - 2)) : Int) ((((k0_.getD ((IntKind.wrap .u32 (((Int.tmod (Int.tmod (IntKind.wrap .u32 s91.1) 10000) 100)) * 2)) : Int).toNat 0).toNat : Nat) : Int)))).flatMap (encI .u8)).length) (tr2 := [([], []), ([], []), ([], []), ([], []), ([], []), ([], []), ([], []), ([], []), ([], []), ([], []), ([], []), ([], []), ([0, 1], [0])]) (H2 := [.box (((setAt ((setAt ((setAt s91.2.2 ((1 : Nat) + (IntKind.wrap .i64 (s91.2.1 - 1)) : Int) ((((k0_.getD ((IntKind.wrap .u32 (((IntKind.wrap .u32 (((Int.tmod (Int.tmod (IntKind.wrap .u32 s91.1) 10000) 100)) * 2))) + 1)) : Int).toNat 0).toNat : Nat) : Int)))) ((1 : Nat) + (IntKind.wrap .i64 (s91.2.1 - 2)) : Int) ((((k0_.getD ((IntKind.wrap .u32 (((Int.tmod (Int.tmod (IntKind.wrap .u32 s91.1) 10000) 100)) * 2)) : Int).toNat 0).toNat : Nat) : Int)))) ((1 : Nat) + (IntKind.wrap .i64 (s91.2.1 - 3)) : Int) ((((k0_.getD ((IntKind.wrap .u32 (((IntKind.wrap .u32 (((IntKind.wrap .u32 (Int.tdiv (Int.tmod (IntKind.wrap .u32 s91.1) 10000) 100))) * 2))) + 1)) : Int).toNat 0).toNat : Nat) : Int)))).flatMap (encI .u8))]) (by kernel_rfl) (storeB_ok (encI_len .u8) hm) (fun hc => N.storeB (o := 1) (encI_len .u8) hm) (by kernel_rfl) ?_
    obtain ⟨hm, h219⟩ := asrt h218
    refine RJ.rel (d := (some 135)) (ef := ⟨.ptr 0 (1 + ((IntKind.wrap .i64 (s91.2.1 - 4)) : Int).toNat * 1), [], []⟩) (ef' := ⟨.ptr 0 (1 + ((IntKind.wrap .i64 (s91.2.1 - 4)) : Int).toNat * 1), [], []⟩) (c := inR (IntKind.wrap .i64 (s91.2.1 - 4)) x0.toNat) (tr2 := [([], []), ([], []), ([], []), ([], []), ([], []), ([], []), ([], []), ([], []), ([], []), ([], []), ([], []), ([], []), ([0, 1], [0]), ([], [])]) (H2 := [.box (((setAt ((setAt ((setAt s91.2.2 ((1 : Nat) + (IntKind.wrap .i64 (s91.2.1 - 1)) : Int) ((((k0_.getD ((IntKind.wrap .u32 (((IntKind.wrap .u32 (((Int.tmod (Int.tmod (IntKind.wrap .u32 s91.1) 10000) 100)) * 2))) + 1)) : Int).toNat 0).toNat : Nat) : Int)))) ((1 : Nat) + (IntKind.wrap .i64 (s91.2.1 - 2)) : Int) ((((k0_.getD ((IntKind.wrap .u32 (((Int.tmod (Int.tmod (IntKind.wrap .u32 s91.1) 10000) 100)) * 2)) : Int).toNat 0).toNat : Nat) : Int)))) ((1 : Nat) + (IntKind.wrap .i64 (s91.2.1 - 3)) : Int) ((((k0_.getD ((IntKind.wrap .u32 (((IntKind.wrap .u32 (((IntKind.wrap .u32 (Int.tdiv (Int.tmod (IntKind.wrap .u32 s91.1) 10000) 100))) * 2))) + 1)) : Int).toNat 0).toNat : Nat) : Int)))).flatMap (encI .u8))]) (by kernel_rfl) hm (fun hc => rfl) (by kernel_rfl) ?_
    obtain ⟨hm, h220⟩ := asrt h219
    refine RJ.relS (d := none) (ef := ⟨.undef, [0], [(0, .box (splice (((setAt ((setAt ((setAt s91.2.2 ((1 : Nat) + (IntKind.wrap .i64 (s91.2.1 - 1)) : Int) ((((k0_.getD ((IntKind.wrap .u32 (((IntKind.wrap .u32 (((Int.tmod (Int.tmod (IntKind.wrap .u32 s91.1) 10000) 100)) * 2))) + 1)) : Int).toNat 0).toNat : Nat) : Int)))) ((1 : Nat) + (IntKind.wrap .i64 (s91.2.1 - 2)) : Int) ((((k0_.getD ((IntKind.wrap .u32 (((Int.tmod (Int.tmod (IntKind.wrap .u32 s91.1) 10000) 100)) * 2)) : Int).toNat 0).toNat : Nat) : Int)))) ((1 : Nat) + (IntKind.wrap .i64 (s91.2.1 - 3)) : Int) ((((k0_.getD ((IntKind.wrap .u32 (((IntKind.wrap .u32 (((IntKind.wrap .u32 (Int.tdiv (Int.tmod (IntKind.wrap .u32 s91.1) 10000) 100))) * 2))) + 1)) : Int).toNat 0).toNat : Nat) : Int)))).flatMap (encI .u8)) (1 * 1 + ((IntKind.wrap .i64 (s91.2.1 - 4)) : Int).toNat * 1) ((encI .u8) ((((k0_.getD ((IntKind.wrap .u32 (((IntKind.wrap .u32 (Int.tdiv (Int.tmod (IntKind.wrap .u32 s91.1) 10000) 100))) * 2)) : Int).toNat 0).toNat : Nat) : Int)))))]⟩) (ef' := ⟨.undef, [0], [(0, .box ((setAt ((setAt ((setAt ((setAt s91.2.2 ((1 : Nat) + (IntKind.wrap .i64 (s91.2.1 - 1)) : Int) ((((k0_.getD ((IntKind.wrap .u32 (((IntKind.wrap .u32 (((Int.tmod (Int.tmod (IntKind.wrap .u32 s91.1) 10000) 100)) * 2))) + 1)) : Int).toNat 0).toNat : Nat) : Int)))) ((1 : Nat) + (IntKind.wrap .i64 (s91.2.1 - 2)) : Int) ((((k0_.getD ((IntKind.wrap .u32 (((Int.tmod (Int.tmod (IntKind.wrap .u32 s91.1) 10000) 100)) * 2)) : Int).toNat 0).toNat : Nat) : Int)))) ((1 : Nat) + (IntKind.wrap .i64 (s91.2.1 - 3)) : Int) ((((k0_.getD ((IntKind.wrap .u32 (((IntKind.wrap .u32 (((IntKind.wrap .u32 (Int.tdiv (Int.tmod (IntKind.wrap .u32 s91.1) 10000) 100))) * 2))) + 1)) : Int).toNat 0).toNat : Nat) : Int)))) ((1 : Nat) + (IntKind.wrap .i64 (s91.2.1 - 4)) : Int) ((((k0_.getD ((IntKind.wrap .u32 (((IntKind.wrap .u32 (Int.tdiv (Int.tmod (IntKind.wrap .u32 s91.1) 10000) 100))) * 2)) : Int).toNat 0).toNat : Nat) : Int))).flatMap (encI .u8)))]⟩) (c := Nat.ble (1 * 1 + ((IntKind.wrap .i64 (s91.2.1 - 4)) : Int).toNat * 1 + ((encI .u8) ((((k0_.getD ((IntKind.wrap .u32 (((IntKind.wrap .u32 (Int.tdiv (Int.tmod (IntKind.wrap .u32 s91.1) 10000) 100))) * 2)) : Int).toNat 0).toNat : Nat) : Int))).length) (((setAt ((setAt ((setAt s91.2.2 ((1 : Nat) + (IntKind.wrap .i64 (s91.2.1 - 1)) : Int) ((((k0_.getD ((IntKind.wrap .u32 (((IntKind.wrap .u32 (((Int.tmod (Int.tmod (IntKind.wrap .u32 s91.1) 10000) 100)) * 2))) + 1)) : Int).toNat 0).toNat : Nat) : Int)))) ((1 : Nat) + (IntKind.wrap .i64 (s91.2.1 - 2)) : Int) ((((k0_.getD ((IntKind.wrap .u32 (((Int.tmod (Int.tmod (IntKind.wrap .u32 s91.1) 10000) 100)) * 2)) : Int).toNat 0).toNat : Nat) : Int)))) ((1 : Nat) + (IntKind.wrap .i64 (s91.2.1 - 3)) : Int) ((((k0_.getD ((IntKind.wrap .u32 (((IntKind.wrap .u32 (((IntKind.wrap .u32 (Int.tdiv (Int.tmod (IntKind.wrap .u32 s91.1) 10000) 100))) * 2))) + 1)) : Int).toNat 0).toNat : Nat) : Int)))).flatMap (encI .u8)).length) (tr2 := [([], []), ([], []), ([], []), ([], []), ([], []), ([], []), ([], []), ([], []), ([], []), ([], []), ([], []), ([], []), ([0, 1], [0]), ([], []), ([0, 1], [0])]) (H2 := [.box (((setAt ((setAt ((setAt ((setAt s91.2.2 ((1 : Nat) + (IntKind.wrap .i64 (s91.2.1 - 1)) : Int) ((((k0_.getD ((IntKind.wrap .u32 (((IntKind.wrap .u32 (((Int.tmod (Int.tmod (IntKind.wrap .u32 s91.1) 10000) 100)) * 2))) + 1)) : Int).toNat 0).toNat : Nat) : Int)))) ((1 : Nat) + (IntKind.wrap .i64 (s91.2.1 - 2)) : Int) ((((k0_.getD ((IntKind.wrap .u32 (((Int.tmod (Int.tmod (IntKind.wrap .u32 s91.1) 10000) 100)) * 2)) : Int).toNat 0).toNat : Nat) : Int)))) ((1 : Nat) + (IntKind.wrap .i64 (s91.2.1 - 3)) : Int) ((((k0_.getD ((IntKind.wrap .u32 (((IntKind.wrap .u32 (((IntKind.wrap .u32 (Int.tdiv (Int.tmod (IntKind.wrap .u32 s91.1) 10000) 100))) * 2))) + 1)) : Int).toNat 0).toNat : Nat) : Int)))) ((1 : Nat) + (IntKind.wrap .i64 (s91.2.1 - 4)) : Int) ((((k0_.getD ((IntKind.wrap .u32 (((IntKind.wrap .u32 (Int.tdiv (Int.tmod (IntKind.wrap .u32 s91.1) 10000) 100))) * 2)) : Int).toNat 0).toNat : Nat) : Int)))).flatMap (encI .u8))]) (by kernel_rfl) (storeB_ok (encI_len .u8) hm) (fun hc => N.storeB (o := 1) (encI_len .u8) hm) (by kernel_rfl) ?_
    refine kEN ?_
    refine kR ?_
    refine kC 3 [0,4,12] ?_
    refine kE ?_
    obtain rfl := oi h220
    exact kN [0, 4, 12]
   ·have h208 := condF hb206 hy203
    refine kF ?_
    refine kK ?_
    obtain rfl := oi h208
    exact kN [0, 4, 12]
  ·obtain ⟨s230, hy232, h234⟩ := bindS h205
   refine K.cutN (by kernel_rfl) (fun (s230 : Int × Int × (List Int)) => ([(0, .sl 0 1 x0.toNat 1), (4, .int .i64 s230.1), (12, .int .u32 s230.2.1)], [.box (s230.2.2.flatMap (encI .u8))])) s230 ?_ ?_
   ·refine kSR ?_
    refine kC 2 [0,4,12,139] ?_
    refine kEN ?_
    refine J.caseB 139 (b := (decide (s201.1 ≥ 2))) (by kernel_rfl) (fun hb235 => ?_) (fun hb235 => ?_)
    ·have h236 := condT hb235 hy232
     refine kT ?_
     refine kSR ?_
     refine kC 4 [0,4,12,16] ?_
     refine kEN ?_
     refine kSR ?_
     refine kC 3 [0,4,12,16] ?_
     refine kEN ?_
     refine kS ?_
     refine J.keep [0, 4, 12, 16] (L2 := [(0, .sl 0 1 x0.toNat 1), (4, .int .i64 s201.1), (12, .int .u32 (IntKind.wrap .u32 (Int.tdiv s201.2.1 100))), (16, .int .u32 ((IntKind.wrap .u32 ((Int.tmod s201.2.1 100) * 2))))]) (by kernel_rfl) ?_
     refine K.draw (by kernel_rfl) (by kernel_rfl) (by kernel_rfl) (H2 := [.box (s201.2.2.flatMap (encI .u8))]) (by kernel_rfl) (n := 1) (by kernel_rfl) ?_
     refine RJ.segD 8 (tr2 := [([], []), ([], []), ([], []), ([], []), ([], []), ([], []), ([], []), ([], [])]) (L2 := [(152, .int .u32 ((IntKind.wrap .u32 (((IntKind.wrap .u32 ((Int.tmod s201.2.1 100) * 2))) + 1)))), (151, .int .u32 ((IntKind.wrap .u32 ((Int.tmod s201.2.1 100) * 2)))), (150, .int .i64 (IntKind.wrap .i64 (s201.1 - 2))), (149, .int .i64 s201.1), (148, .sl 0 1 x0.toNat 1), (147, .int .i64 (IntKind.wrap .i64 (s201.1 - 1))), (146, .int .i64 s201.1), (145, .sl 0 1 x0.toNat 1), (0, .sl 0 1 x0.toNat 1), (4, .int .i64 s201.1), (12, .int .u32 (IntKind.wrap .u32 (Int.tdiv s201.2.1 100))), (16, .int .u32 ((IntKind.wrap .u32 ((Int.tmod s201.2.1 100) * 2))))]) (H2 := [.box (s201.2.2.flatMap (encI .u8))]) (by kernel_rfl) ?_
     obtain ⟨hm, h238⟩ := asrt h236
     refine RJ.rel (d := (some 153)) (ef := ⟨.int .u8 (((k0_.getD ((IntKind.wrap .u32 (((IntKind.wrap .u32 ((Int.tmod s201.2.1 100) * 2))) + 1)) : Int).toNat 0).toNat : Nat) : Int), [], []⟩) (ef' := ⟨.int .u8 (((k0_.getD ((IntKind.wrap .u32 (((IntKind.wrap .u32 ((Int.tmod s201.2.1 100) * 2))) + 1)) : Int).toNat 0).toNat : Nat) : Int), [], []⟩) (c := inR ((IntKind.wrap .u32 (((IntKind.wrap .u32 ((Int.tmod s201.2.1 100) * 2))) + 1))) k0_.length) (tr2 := [([], []), ([], []), ([], []), ([], []), ([], []), ([], []), ([], []), ([], []), ([], [])]) (H2 := [.box (s201.2.2.flatMap (encI .u8))]) (by kernel_rfl) hm (fun hc => rfl) (by kernel_rfl) ?_
     refine kD 1 ?_
     obtain ⟨hm, h239⟩ := asrt h238
     refine RJ.rel (d := (some 155)) (ef := ⟨.int .u8 (((k0_.getD ((IntKind.wrap .u32 ((Int.tmod s201.2.1 100) * 2)) : Int).toNat 0).toNat : Nat) : Int), [], []⟩) (ef' := ⟨.int .u8 (((k0_.getD ((IntKind.wrap .u32 ((Int.tmod s201.2.1 100) * 2)) : Int).toNat 0).toNat : Nat) : Int), [], []⟩) (c := inR ((IntKind.wrap .u32 ((Int.tmod s201.2.1 100) * 2))) k0_.length) (tr2 := [([], []), ([], []), ([], []), ([], []), ([], []), ([], []), ([], []), ([], []), ([], []), ([], []), ([], [])]) (H2 := [.box (s201.2.2.flatMap (encI .u8))]) (by kernel_rfl) hm (fun hc => rfl) (by kernel_rfl) ?_
     obtain ⟨hm, h240⟩ := asrt h239
     refine RJ.rel (d := (some 156)) (ef := ⟨.ptr 0 (1 + ((IntKind.wrap .i64 (s201.1 - 1)) : Int).toNat * 1), [], []⟩) (ef' := ⟨.ptr 0 (1 + ((IntKind.wrap .i64 (s201.1 - 1)) : Int).toNat * 1), [], []⟩) (c := inR (IntKind.wrap .i64 (s201.1 - 1)) x0.toNat) (tr2 := [([], []), ([], []), ([], []), ([], []), ([], []), ([], []), ([], []), ([], []), ([], []), ([], []), ([], []), ([], [])]) (H2 := [.box (s201.2.2.flatMap (encI .u8))]) (by kernel_rfl) hm (fun hc => rfl) (by kernel_rfl) ?_
     obtain ⟨hm, h241⟩ := asrt h240
     refine RJ.relS (d := none) (ef := ⟨.undef, [0], [(0, .box (splice (s201.2.2.flatMap (encI .u8)) (1 * 1 + ((IntKind.wrap .i64 (s201.1 - 1)) : Int).toNat * 1) ((encI .u8) ((((k0_.getD ((IntKind.wrap .u32 (((IntKind.wrap .u32 ((Int.tmod s201.2.1 100) * 2))) + 1)) : Int).toNat 0).toNat : Nat) : Int)))))]⟩) (ef' := ⟨.undef, [0], [(0, .box ((setAt s201.2.2 ((1 : Nat) + (IntKind.wrap .i64 (s201.1 - 1)) : Int) ((((k0_.getD ((IntKind.wrap .u32 (((IntKind.wrap .u32 ((Int.tmod s201.2.1 100) * 2))) + 1)) : Int).toNat 0).toNat : Nat) : Int))).flatMap (encI .u8)))]⟩) (c := Nat.ble (1 * 1 + ((IntKind.wrap .i64 (s201.1 - 1)) : Int).toNat * 1 + ((encI .u8) ((((k0_.getD ((IntKind.wrap .u32 (((IntKind.wrap .u32 ((Int.tmod s201.2.1 100) * 2))) + 1)) : Int).toNat 0).toNat : Nat) : Int))).length) (s201.2.2.flatMap (encI .u8)).length) (tr2 := [([], []), ([], []), ([], []), ([], []), ([], []), ([], []), ([], []), ([], []), ([], []), ([], []), ([], []), ([], []), ([0, 1], [0])]) (H2 := [.box (((setAt s201.2.2 ((1 : Nat) + (IntKind.wrap .i64 (s201.1 - 1)) : Int) ((((k0_.getD ((IntKind.wrap .u32 (((IntKind.wrap .u32 ((Int.tmod s201.2.1 100) * 2))) + 1)) : Int).toNat 0).toNat : Nat) : Int)))).flatMap (encI .u8))]) (by kernel_rfl) (storeB_ok (encI_len .u8) hm) (fun hc => N.storeB (o := 1) (encI_len .u8) hm) (by kernel_rfl) ?_
     obtain ⟨hm, h242⟩ := asrt h241
     refine RJ.rel (d := (some 157)) (ef := ⟨.ptr 0 (1 + ((IntKind.wrap .i64 (s201.1 - 2)) : Int).toNat * 1), [], []⟩) (ef' := ⟨.ptr 0 (1 + ((IntKind.wrap .i64 (s201.1 - 2)) : Int).toNat * 1), [], []⟩) (c := inR (IntKind.wrap .i64 (s201.1 - 2)) x0.toNat) (tr2 := [([], []), ([], []), ([], []), ([], []), ([], []), ([], []), ([], []), ([], []), ([], []), ([], []), ([], []), ([], []), ([0, 1], [0]), ([], [])]) (H2 := [.box (((setAt s201.2.2 ((1 : Nat) + (IntKind.wrap .i64 (s201.1 - 1)) : Int) ((((k0_.getD ((IntKind.wrap .u32 (((IntKind.wrap .u32 ((Int.tmod s201.2.1 100) * 2))) + 1)) : Int).toNat 0).toNat : Nat) : Int)))).flatMap (encI .u8))]) (by kernel_rfl) hm (fun hc => rfl) (by kernel_rfl) ?_
     obtain ⟨hm, h243⟩ := asrt h242
     refine RJ.relS (d := none) (ef := ⟨.undef, [0], [(0, .box (splice (((setAt s201.2.2 ((1 : Nat) + (IntKind.wrap .i64 (s201.1 - 1)) : Int) ((((k0_.getD ((IntKind.wrap .u32 (((IntKind.wrap .u32 ((Int.tmod s201.2.1 100) * 2))) + 1)) : Int).toNat 0).toNat : Nat) : Int)))).flatMap (encI .u8)) (1 * 1 + ((IntKind.wrap .i64 (s201.1 - 2)) : Int).toNat * 1) ((encI .u8) ((((k0_.getD ((IntKind.wrap .u32 ((Int.tmod s201.2.1 100) * 2)) : Int).toNat 0).toNat : Nat) : Int)))))]⟩) (ef' := ⟨.undef, [0], [(0, .box ((setAt ((setAt s201.2.2 ((1 : Nat) + (IntKind.wrap .i64 (s201.1 - 1)) : Int) ((((k0_.getD ((IntKind.wrap .u32 (((IntKind.wrap .u32 ((Int.tmod s201.2.1 100) * 2))) + 1)) : Int).toNat 0).toNat : Nat) : Int)))) ((1 : Nat) + (IntKind.wrap .i64 (s201.1 - 2)) : Int) ((((k0_.getD ((IntKind.wrap .u32 ((Int.tmod s201.2.1 100) * 2)) : Int).toNat 0).toNat : Nat) : Int))).flatMap (encI .u8)))]⟩) (c := Nat.ble (1 * 1 + ((IntKind.wrap .i64 (s201.1 - 2)) : Int).toNat * 1 + ((encI .u8) ((((k0_.getD ((IntKind.wrap .u32 ((Int.tmod s201.2.1 100) * 2)) : Int).toNat 0).toNat : Nat) : Int))).length) (((setAt s201.2.2 ((1 : Nat) + (IntKind.wrap .i64 (s201.1 - 1)) : Int) ((((k0_.getD ((IntKind.wrap .u32 (((IntKind.wrap .u32 ((Int.tmod s201.2.1 100) * 2))) + 1)) : Int).toNat 0).toNat : Nat) : Int)))).flatMap (encI .u8)).length) (tr2 := [([], []), ([], []), ([], []), ([], []), ([], []), ([], []), ([], []), ([], []), ([], []), ([], []), ([], []), ([], []), ([0, 1], [0]), ([], []), ([0, 1], [0])]) (H2 := [.box (((setAt ((setAt s201.2.2 ((1 : Nat) + (IntKind.wrap .i64 (s201.1 - 1)) : Int) ((((k0_.getD ((IntKind.wrap .u32 (((IntKind.wrap .u32 ((Int.tmod s201.2.1 100) * 2))) + 1)) : Int).toNat 0).toNat : Nat) : Int)))) ((1 : Nat) + (IntKind.wrap .i64 (s201.1 - 2)) : Int) ((((k0_.getD ((IntKind.wrap .u32 ((Int.tmod s201.2.1 100) * 2)) : Int).toNat 0).toNat : Nat) : Int)))).flatMap (encI .u8))]) (by kernel_rfl) (storeB_ok (encI_len .u8) hm) (fun hc => N.storeB (o := 1) (encI_len .u8) hm) (by kernel_rfl) ?_
     refine kEN ?_
     refine kR ?_
     refine kC 3 [0,4,12] ?_
     refine kE ?_
     obtain rfl := oi h243
     exact kN [0, 4, 12]
    ·have h237 := condF hb235 hy232
     refine kF ?_
     refine kK ?_
     obtain rfl := oi h237
     exact kN [0, 4, 12]
   ·refine kSR ?_
    refine kC 2 [0,12,161] ?_
    refine kEN ?_
    refine J.caseB 161 (b := (decide (s230.1 > 0))) (by kernel_rfl) (fun hb244 => ?_) (fun hb244 => ?_)
    ·have h245 := condT hb244 h234
     refine kT ?_
     refine kR ?_
     refine kC 4 [162,165] ?_
     obtain ⟨hm, h247⟩ := asrt h245
     refine RJ.rel (d := (some 166)) (ef := ⟨.ptr 0 (1 + (0 : Int).toNat * 1), [], []⟩) (ef' := ⟨.ptr 0 (1 + (0 : Int).toNat * 1), [], []⟩) (c := inR 0 x0.toNat) (tr2 := []) (H2 := [.box (s230.2.2.flatMap (encI .u8))]) (by kernel_rfl) hm (fun hc => rfl) (by kernel_rfl) ?_
     obtain ⟨hm, h248⟩ := asrt h247
     refine RJ.relS (d := none) (ef := ⟨.undef, [0], [(0, .box (splice (s230.2.2.flatMap (encI .u8)) (1 * 1 + (0 : Int).toNat * 1) ((encI .u8) ((IntKind.wrap .u8 (IntKind.wrap .u32 (48 + s230.2.1)))))))]⟩) (ef' := ⟨.undef, [0], [(0, .box ((setAt s230.2.2 ((1 : Nat) + 0 : Int) ((IntKind.wrap .u8 (IntKind.wrap .u32 (48 + s230.2.1))))).flatMap (encI .u8)))]⟩) (c := Nat.ble (1 * 1 + (0 : Int).toNat * 1 + ((encI .u8) ((IntKind.wrap .u8 (IntKind.wrap .u32 (48 + s230.2.1))))).length) (s230.2.2.flatMap (encI .u8)).length) (tr2 := []) (H2 := [.box (((setAt s230.2.2 ((1 : Nat) + 0 : Int) ((IntKind.wrap .u8 (IntKind.wrap .u32 (48 + s230.2.1)))))).flatMap (encI .u8))]) (by kernel_rfl) (storeB_ok (encI_len .u8) hm) (fun hc => N.storeB (o := 1) (encI_len .u8) hm) (by kernel_rfl) ?_
     refine kE ?_
     obtain rfl := oi h248
     exact K.retV (H0 := [.box (x2.flatMap (encI .u8))]) [0] (.inl rfl) hFn hFH hFD (by kernel_rfl) (v1 := .tup []) (by kernel_rfl) (by kernel_rfl) (by simp only [List.map_cons, List.map_nil, rn_lbox (enc := (encI .u8)) (fun _ _ => rfl)]; kernel_rfl) (by decide) (by simp only [List.all_cons, List.all_nil, refs_lbox (enc := (encI .u8)) (fun _ _ => rfl)]; kernel_rfl) (by kernel_rfl) (by kernel_rfl) (by kernel_rfl) (by kernel_rfl)
    ·have h246 := condF hb244 h234
     refine kF ?_
     refine kK ?_
     obtain rfl := oi h246
     exact K.retV (H0 := [.box (x2.flatMap (encI .u8))]) [0] (.inl rfl) hFn hFH hFD (by kernel_rfl) (v1 := .tup []) (by kernel_rfl) (by kernel_rfl) (by simp only [List.map_cons, List.map_nil, rn_lbox (enc := (encI .u8)) (fun _ _ => rfl)]; kernel_rfl) (by decide) (by simp only [List.all_cons, List.all_nil, refs_lbox (enc := (encI .u8)) (fun _ _ => rfl)]; kernel_rfl) (by kernel_rfl) (by kernel_rfl) (by kernel_rfl) (by kernel_rfl)

def strconv_FormatInt (x0 : Int) (x1 : Int) : Option (List UInt8) :=
 (bif (decide (x1 = 10)) then (Option.bind (Option.bind (bif (decide (0 ≤ x0)) then (some (decide (x0 < 100))) else (some false)) fun (s30 : Bool) => (bif s30 then (Option.bind (strconv_small x0) fun y41 => (some (.inr y41))) else (some (.inl ())))) (joinX fun (s22 : Unit) => (Option.bind (bif (decide (x0 < 0)) then (some ((IntKind.wrap .u64 (0 - (IntKind.wrap .u64 x0))))) else (some (IntKind.wrap .u64 x0))) fun (s48 : Int) => (Option.bind (strconv_numDigits s48) fun y56 => (bif inS 1 (IntKind.wrap .i64 (1 + y56)) 24 then (Option.bind (strconv_formatBase10_s0 (((IntKind.wrap .i64 (1 + y56)) - 1 : Int)) s48 (rep 24 (0 : Int))) fun y60 => (bif (decide (x0 < 0)) then (bif inP 0 0 y60.length then (bif inS 0 (IntKind.wrap .i64 (1 + y56)) 24 then (bif inS ((0 : Nat) : Int) (((0 : Nat) : Int) + (((IntKind.wrap .i64 (1 + y56)) : Int))) ((setAt y60 ((0 : Nat) + 0 : Int) 45)).length then (some (bytesS (cut ((setAt y60 ((0 : Nat) + 0 : Int) 45)) ((0 : Nat) : Int) (((0 : Nat) : Int) + (((IntKind.wrap .i64 (1 + y56)) : Int)))))) else none) else none) else none) else (bif inS 1 (IntKind.wrap .i64 (1 + y56)) 24 then (bif inS ((1 : Nat) : Int) (((1 : Nat) : Int) + (((IntKind.wrap .i64 (1 + y56)) - 1 : Int))) y60.length then (some (bytesS (cut y60 ((1 : Nat) : Int) (((1 : Nat) : Int) + (((IntKind.wrap .i64 (1 + y56)) - 1 : Int)))))) else none) else none))) else none))))) else none)
theorem strconv_FormatInt_ok {x0 : Int} {x1 : Int} {r : List UInt8} (h : strconv_FormatInt x0 x1 = some r) : SC Tryd.prog 43 [.int .i64 x0, .int .i64 x1] [] (.str r) [] := by
 refine kFn (fn := Tryd.f43) (fun F hFn hFH hFD => ?_)
 unfold strconv_FormatInt at h
 refine kSR ?_
 refine kC 1 [0,1,4] ?_
 refine kEN ?_
 refine kS ?_
 refine kSR ?_
 refine kC 2 [0,1,4,11] ?_
 refine kEN ?_
 refine J.caseB 11 (b := (decide (x1 = 10))) (by kernel_rfl) (fun hb1 => ?_) (fun hb1 => ?_)
 ·have h2 := condT hb1 h
  refine kT ?_
  obtain ⟨y23, hy24, h25⟩ := bindS h2
  refine K.cutX (by kernel_rfl) (fun (s22 : Unit) => ([(0, .int .i64 x0), (1, .int .i64 x1), (4, .str ([] : List UInt8))], [])) y23 ?_ (fun s22 hs => ?_)
  ·obtain ⟨s30, hy32, h34⟩ := bindS hy24
   refine K.cutN (by kernel_rfl) (fun (s30 : Bool) => ([(0, .int .i64 x0), (1, .int .i64 x1), (4, .str ([] : List UInt8)), (17, .bool s30)], [])) s30 ?_ ?_
   ·refine kR ?_
    refine kC 3 [0,1,4,14] ?_
    refine RJ.caseB 14 (b := (decide (0 ≤ x0))) (by kernel_rfl) (fun hb35 => ?_) (fun hb35 => ?_)
    ·have h36 := condT hb35 hy32
     refine RJ.seg 3 [0, 1, 4, 17] (L2 := [(0, .int .i64 x0), (1, .int .i64 x1), (4, .str ([] : List UInt8)), (17, .bool (decide (x0 < 100)))]) (H2 := []) (by kernel_rfl) ?_
     refine kE ?_
     obtain rfl := oi h36
     exact kN [0, 1, 4, 17]
    ·have h37 := condF hb35 hy32
     refine RJ.seg 3 [0, 1, 4, 17] (L2 := [(0, .int .i64 x0), (1, .int .i64 x1), (4, .str ([] : List UInt8)), (17, .bool false)]) (H2 := []) (by kernel_rfl) ?_
     refine kE ?_
     obtain rfl := oi h37
     exact kN [0, 1, 4, 17]
   ·refine J.caseB 17 (b := s30) (by kernel_rfl) (fun hb38 => ?_) (fun hb38 => ?_)
    ·have h39 := condT hb38 h34
     refine kT ?_
     refine kSR ?_
     refine kC 1 [0,1,4,18] ?_
     obtain ⟨y41, hy42, h43⟩ := bindS h39
     refine RJ.call0 (d := (some 19)) (f := 44) (args := [.int .i64 x0]) (v := .str y41) (tr2 := []) (by kernel_rfl) (by kernel_rfl) (.cons (Le.refl _) .nil) (strconv_small_ok hy42) (by kernel_rfl) ?_
     refine kC 1 [0,1,4] ?_
     refine kEN ?_
     refine kX ?_
     obtain rfl := oi h43
     have h44 := joinX_inr h25
     refine PJ.cutXr (fun e => nomatch e) ?_
     refine PJ.passRet ?_
     obtain rfl := oi h44
     exact kZ hFn hFH hFD
    ·have h40 := condF hb38 h34
     refine kF ?_
     refine kK ?_
     obtain rfl := oi h40
     exact PJ.cutXl [0, 1, 4] (by kernel_rfl) (by kernel_rfl)
  ·subst hs
   have h26 := joinX_inl h25
   refine kSR ?_
   refine kC 1 [0,1,4,5] ?_
   refine kEN ?_
   refine kSR ?_
   refine kC 3 [0,1,4,5,6] ?_
   refine kEN ?_
   obtain ⟨s48, hy50, h52⟩ := bindS h26
   refine K.cutN (by kernel_rfl) (fun (s48 : Int) => ([(0, .int .i64 x0), (1, .int .i64 x1), (4, .str ([] : List UInt8)), (5, .ptr 0 0), (6, .int .u64 s48)], [.box ((rep 24 (0 : Int)).flatMap (encI .u8))])) s48 ?_ ?_
   ·refine kSR ?_
    refine kC 2 [0,1,4,5,6,23] ?_
    refine kEN ?_
    refine J.caseB 23 (b := (decide (x0 < 0))) (by kernel_rfl) (fun hb53 => ?_) (fun hb53 => ?_)
    ·have h54 := condT hb53 hy50
     refine kT ?_
     refine kR ?_
     refine RJ.seg 3 [0, 1, 4, 5, 6] (L2 := [(0, .int .i64 x0), (1, .int .i64 x1), (4, .str ([] : List UInt8)), (5, .ptr 0 0), (6, .int .u64 ((IntKind.wrap .u64 (0 - (IntKind.wrap .u64 x0)))))]) (H2 := [.box ((rep 24 (0 : Int)).flatMap (encI .u8))]) (by kernel_rfl) ?_
     refine kE ?_
     obtain rfl := oi h54
     exact kN [0, 1, 4, 5, 6]
    ·have h55 := condF hb53 hy50
     refine kF ?_
     refine kK ?_
     obtain rfl := oi h55
     exact kN [0, 1, 4, 5, 6]
   ·refine kSR ?_
    refine kC 1 [0,1,4,5,6,26] ?_
    obtain ⟨y56, hy57, h58⟩ := bindS h52
    refine RJ.call0 (d := (some 27)) (f := 45) (args := [.int .u64 s48]) (v := .int .i64 y56) (tr2 := []) (by kernel_rfl) (by kernel_rfl) (.cons (Le.refl _) .nil) (strconv_numDigits_ok hy57) (by kernel_rfl) ?_
    refine kC 1 [0,1,4,5,6,7] ?_
    refine kEN ?_
    refine kSR ?_
    refine kC 2 [0,1,4,5,6,7,29] ?_
    obtain ⟨hm, h59⟩ := asrt h58
    refine RJ.sliceLo (d := some 30) (i := 0) (off := 0) (len := 24) (kk := 1) (l := 1) (hh := (IntKind.wrap .i64 (1 + y56))) (by kernel_rfl) (by kernel_rfl) hm (by decide) ?_
    refine RJ.seg 1 [0, 1, 4, 5, 7, 30, 31] (L2 := [(0, .int .i64 x0), (1, .int .i64 x1), (4, .str ([] : List UInt8)), (5, .ptr 0 0), (7, .int .i64 y56), (30, .sl 0 1 (((IntKind.wrap .i64 (1 + y56)) - 1 : Int)).toNat 1), (31, .int .u64 s48)]) (H2 := [.box ((rep 24 (0 : Int)).flatMap (encI .u8))]) (by kernel_rfl) ?_
    obtain ⟨y60, hy61, h62⟩ := bindS h59
    refine RJ.callG (d := (some 32)) (f := 46) (args := [.sl 0 1 (((IntKind.wrap .i64 (1 + y56)) - 1 : Int)).toNat 1, .int .u64 s48]) (args0 := [.sl 0 1 (((IntKind.wrap .i64 (1 + y56)) - 1 : Int)).toNat 1, .int .u64 s48]) (v0 := .tup []) (v := .tup []) (tr2 := []) (H0 := [.box ((rep 24 (0 : Int)).flatMap (encI .u8))]) (H0' := [.box (y60.flatMap (encI .u8))]) (H2 := [.box (y60.flatMap (encI .u8))]) [0] (by kernel_rfl) (by kernel_rfl) (by kernel_rfl) (by simp only [List.map_cons, List.map_nil, rn_lbox (enc := (encI .u8)) (fun _ _ => rfl)]; kernel_rfl) (by decide) (by simp only [List.all_cons, List.all_nil, refs_lbox (enc := (encI .u8)) (fun _ _ => rfl)]; kernel_rfl) (by kernel_rfl) (by kernel_rfl) (.cons (Le.refl _) (.cons (Le.refl _) .nil)) (strconv_formatBase10_s0_ok hy61) (by kernel_rfl) (by kernel_rfl) ((show frameH (selF [0]) 1 _ [.box (y60.flatMap (encI .u8))] = [Ent.rn (gOf (selF [0]) 1 1) (.box (y60.flatMap (encI .u8)))] by kernel_rfl).trans (by simp only [rn_lbox (enc := (encI .u8)) (fun _ _ => rfl)])) ?_
    refine kEN ?_
    refine kS ?_
    refine kSR ?_
    refine kC 2 [0,1,4,5,7,34] ?_
    refine kEN ?_
    refine J.caseB 34 (b := (decide (x0 < 0))) (by kernel_rfl) (fun hb63 => ?_) (fun hb63 => ?_)
    ·have h64 := condT hb63 h62
     refine kT ?_
     refine kSR ?_
     refine kC 1 [0,1,4,5,7,35] ?_
     obtain ⟨hm, h66⟩ := asrt h64
     refine RJ.relS (d := none) (ef := ⟨.undef, [0], [(0, .box (splice (y60.flatMap (encI .u8)) (0 * 1 + (0 : Int).toNat * 1) ((encI .u8) 45)))]⟩) (ef' := ⟨.undef, [0], [(0, .box ((setAt y60 ((0 : Nat) + 0 : Int) 45).flatMap (encI .u8)))]⟩) (c := Nat.ble (0 * 1 + (0 : Int).toNat * 1 + ((encI .u8) 45).length) (y60.flatMap (encI .u8)).length) (tr2 := []) (H2 := [.box (((setAt y60 ((0 : Nat) + 0 : Int) 45)).flatMap (encI .u8))]) (by kernel_rfl) (storeB_ok (encI_len .u8) hm) (fun hc => N.storeB (o := 0) (encI_len .u8) hm) (by kernel_rfl) ?_
     refine kEN ?_
     refine kSR ?_
     refine kC 2 [0,1,4,5,7,37] ?_
     obtain ⟨hm, h67⟩ := asrt h66
     refine RJ.relS (d := (some 38)) (ef := ⟨.sl 0 0 ((IntKind.wrap .i64 (1 + y56)) : Int).toNat 1, [], []⟩) (ef' := ⟨.sl 0 0 ((IntKind.wrap .i64 (1 + y56)) : Int).toNat 1, [], []⟩) (c := inS 0 (IntKind.wrap .i64 (1 + y56)) 24) (tr2 := []) (H2 := [.box (((setAt y60 ((0 : Nat) + 0 : Int) 45)).flatMap (encI .u8))]) (by kernel_rfl) hm (fun hc => rfl) (by kernel_rfl) ?_
     obtain ⟨hm, h68⟩ := asrt h67
     refine RJ.relS (d := (some 39)) (ef := ⟨.str ((((((setAt y60 ((0 : Nat) + 0 : Int) 45)).flatMap (encI .u8)).drop (0 * 1)).take ((((IntKind.wrap .i64 (1 + y56)) : Int)).toNat * 1)).map Go.Sy.byteOf), [0], []⟩) (ef' := ⟨.str (bytesS (cut ((setAt y60 ((0 : Nat) + 0 : Int) 45)) ((0 : Nat) : Int) (((0 : Nat) : Int) + (((IntKind.wrap .i64 (1 + y56)) : Int))))), [0], []⟩) (c := (Nat.ble (0 * 1 + (((IntKind.wrap .i64 (1 + y56)) : Int)).toNat * 1) (((setAt y60 ((0 : Nat) + 0 : Int) 45)).flatMap (encI .u8)).length && (plainL (((((setAt y60 ((0 : Nat) + 0 : Int) 45)).flatMap (encI .u8)).drop (0 * 1)).take ((((IntKind.wrap .i64 (1 + y56)) : Int)).toNat * 1)) && (((((setAt y60 ((0 : Nat) + 0 : Int) 45)).flatMap (encI .u8)).drop (0 * 1)).take ((((IntKind.wrap .i64 (1 + y56)) : Int)).toNat * 1)).all isByte))) (tr2 := []) (H2 := [.box (((setAt y60 ((0 : Nat) + 0 : Int) 45)).flatMap (encI .u8))]) (by kernel_rfl) (strB_ok (o := 0) hm) (fun hc => N.strB (o := 0) hm) (by kernel_rfl) ?_
     refine RJ.seg 1 [0, 1, 4, 5, 7] (L2 := [(0, .int .i64 x0), (1, .int .i64 x1), (4, .str ((bytesS (cut ((setAt y60 ((0 : Nat) + 0 : Int) 45)) ((0 : Nat) : Int) (((0 : Nat) : Int) + (((IntKind.wrap .i64 (1 + y56)) : Int))))))), (5, .ptr 0 0), (7, .int .i64 y56)]) (H2 := [.box (((setAt y60 ((0 : Nat) + 0 : Int) 45)).flatMap (encI .u8))]) (by kernel_rfl) ?_
     refine kEN ?_
     refine kX ?_
     refine PJ.passRet ?_
     refine PJ.passRet ?_
     obtain rfl := oi h68
     exact kZ hFn hFH hFD
    ·have h65 := condF hb63 h62
     refine kF ?_
     refine kK ?_
     refine PJ.next ?_
     refine kSR ?_
     refine kC 2 [0,1,4,5,41] ?_
     obtain ⟨hm, h69⟩ := asrt h65
     refine RJ.sliceLo (d := some 42) (i := 0) (off := 0) (len := 24) (kk := 1) (l := 1) (hh := (IntKind.wrap .i64 (1 + y56))) (by kernel_rfl) (by kernel_rfl) hm (by decide) ?_
     obtain ⟨hm, h70⟩ := asrt h69
     refine RJ.relS (d := (some 43)) (ef := ⟨.str ((((y60.flatMap (encI .u8)).drop (1 * 1)).take ((((IntKind.wrap .i64 (1 + y56)) - 1 : Int)).toNat * 1)).map Go.Sy.byteOf), [0], []⟩) (ef' := ⟨.str (bytesS (cut y60 ((1 : Nat) : Int) (((1 : Nat) : Int) + (((IntKind.wrap .i64 (1 + y56)) - 1 : Int))))), [0], []⟩) (c := (Nat.ble (1 * 1 + (((IntKind.wrap .i64 (1 + y56)) - 1 : Int)).toNat * 1) (y60.flatMap (encI .u8)).length && (plainL (((y60.flatMap (encI .u8)).drop (1 * 1)).take ((((IntKind.wrap .i64 (1 + y56)) - 1 : Int)).toNat * 1)) && (((y60.flatMap (encI .u8)).drop (1 * 1)).take ((((IntKind.wrap .i64 (1 + y56)) - 1 : Int)).toNat * 1)).all isByte))) (tr2 := []) (H2 := [.box (y60.flatMap (encI .u8))]) (by kernel_rfl) (strB_ok (o := 1) hm) (fun hc => N.strB (o := 1) hm) (by kernel_rfl) ?_
     refine kC 1 [0,1,4] ?_
     refine kEN ?_
     refine kX ?_
     refine PJ.passRet ?_
     obtain rfl := oi h70
     exact kZ hFn hFH hFD
 ·have h3 := condF hb1 h
  refine kF ?_
  refine kK ?_
  refine PJ.next ?_
  refine kSR ?_
  refine kC 5 [4,46,47,49] ?_
  cases h3

def strconv_Itoa_41 (x0 : Int) : Option (List UInt8) :=
 (Option.bind (strconv_FormatInt x0 10) fun y1 => (some y1))
theorem strconv_Itoa_41_ok {x0 : Int} {r : List UInt8} (h : strconv_Itoa_41 x0 = some r) : SC Tryd.prog 41 [.int .i64 x0] [] (.str r) [] := by
 refine kFn (fn := Tryd.f41) (fun F hFn hFH hFD => ?_)
 unfold strconv_Itoa_41 at h
 refine kSR ?_
 refine kC 1 [0,2] ?_
 refine kEN ?_
 refine kSR ?_
 refine kC 1 [2,3] ?_
 obtain ⟨y1, hy2, h3⟩ := bindS h
 refine RJ.call0 (d := (some 4)) (f := 43) (args := [.int .i64 x0, .int .i64 10]) (v := .str y1) (tr2 := []) (by kernel_rfl) (by kernel_rfl) (.cons (Le.refl _) (.cons (Le.refl _) .nil)) (strconv_FormatInt_ok hy2) (by kernel_rfl) ?_
 refine kC 1 [2] ?_
 refine kEN ?_
 refine kX ?_
 obtain rfl := oi h3
 exact kZ hFn hFH hFD

def strconv_Itoa (x0 : Int) : Option (List UInt8) :=
 (Option.bind (strconv_Itoa_41 x0) fun y1 => (some y1))
theorem strconv_Itoa_ok {x0 : Int} {r : List UInt8} (h : strconv_Itoa x0 = some r) : SC Tryd.prog 28 [.int .i64 x0] [] (.str r) [] := by
 refine kFn (fn := Tryd.f28) (fun F hFn hFH hFD => ?_)
 unfold strconv_Itoa at h
 refine kSR ?_
 refine kC 1 [0,2] ?_
 refine kEN ?_
 refine kSR ?_
 refine kC 1 [2,3] ?_
 obtain ⟨y1, hy2, h3⟩ := bindS h
 refine RJ.call0 (d := (some 4)) (f := 41) (args := [.int .i64 x0]) (v := .str y1) (tr2 := []) (by kernel_rfl) (by kernel_rfl) (.cons (Le.refl _) .nil) (strconv_Itoa_41_ok hy2) (by kernel_rfl) ?_
 refine kC 1 [2] ?_
 refine kEN ?_
 refine kX ?_
 obtain rfl := oi h3
 exact kZ hFn hFH hFD

def dec_Text (x0 : St23) : Option (List UInt8) :=
 (Option.bind (bif x0.Neg_ then (bif room ([45] : List Int).length then (some ([45] : List Int)) else none) else (some ([] : List Int))) fun (s5 : (List Int)) => (Option.bind (bif (decide ((x0.D_.length : Int) = 0)) then (bif room (s5.length + ([48] : List Int).length) then (some (s5 ++ ([48] : List Int))) else none) else (some s5)) fun (s18 : (List Int)) => (Option.bind (loopN (fun (s56 : Int × (List Int)) => (bif (decide (s56.1 < (x0.D_.length : Int))) then (bif inR s56.1 x0.D_.length then (bif room (s56.2.length + (([(IntKind.wrap .u8 (48 + (nth x0.D_ s56.1)))] : List Int)).length) then (some (.inl ((IntKind.wrap .i64 (s56.1 + 1)), (s56.2 ++ (([(IntKind.wrap .u8 (48 + (nth x0.D_ s56.1)))] : List Int)))))) else none) else none) else (some (.inr s56.2)))) big (0, s18)) fun (s51 : (List Int)) => (bif room ((bytesS s51).length + ([101] : List UInt8).length) then (Option.bind (strconv_Itoa x0.E_) fun y81 => (bif room (((bytesS s51) ++ ([101] : List UInt8)).length + y81.length) then (some (((bytesS s51) ++ ([101] : List UInt8)) ++ y81)) else none)) else none))))
theorem dec_Text_ok {x0 : St23} {r : List UInt8} (h : dec_Text x0 = some r) : SC Tryd.prog 15 [.agg (encSt23 x0)] [] (.str r) [] := by
 refine kFn (fn := Tryd.f15) (fun F hFn hFH hFD => ?_)
 unfold dec_Text at h
 refine kSR ?_
 refine kC 2 [1,2] ?_
 refine kEN ?_
 refine kSR ?_
 refine kC 1 [1,2,3] ?_
 refine kEN ?_
 obtain ⟨s5, hy7, h9⟩ := bindS h
 refine K.cutN (by kernel_rfl) (fun (s5 : (List Int)) => ([(1, .ptr 0 0), (2, .str ([] : List UInt8)), (3, .vc 1)], [.box (encSt23 x0), vecL (encI .u8) 1 5 s5])) s5 ?_ ?_
 ·refine kSR ?_
  refine kC 2 [1,2,3,7] ?_
  refine kEN ?_
  refine J.caseB 7 (b := x0.Neg_) (by kernel_rfl) (fun hb10 => ?_) (fun hb10 => ?_)
  ·have h11 := condT hb10 hy7
   refine kT ?_
   refine kR ?_
   refine RJ.seg 2 [1, 2, 3, 8, 9] (L2 := [(1, .ptr 0 0), (2, .str ([] : List UInt8)), (3, .nl), (8, .nl), (9, .vc 1)]) (H2 := [.box (encSt23 x0), vecL (encI .u8) 1 5 ([45] : List Int)]) (by kernel_rfl) ?_
   obtain ⟨hm, h13⟩ := asrt h11
   refine RJ.rel (d := (some 10)) (ef := ⟨.vc 2, [1], [(2, .vec ([45] : List Int).length 1 5 (([45] : List Int).flatMap (encI .u8)))]⟩) (ef' := ⟨.vc 2, [1], [(2, .vec ([45] : List Int).length 1 5 (([45] : List Int).flatMap (encI .u8)))]⟩) (c := roomB ([45] : List Int).length) (tr2 := []) (H2 := [.box (encSt23 x0), vecL (encI .u8) 1 5 ([45] : List Int), vecL (encI .u8) 1 5 ([45] : List Int)]) (by kernel_rfl) (roomB_of_room hm) (fun hc => rfl) (by kernel_rfl) ?_
   refine kC 1 [1,2,3] ?_
   refine kE ?_
   obtain rfl := oi h13
   refine PJ.wk (Wk.sel (L2 := [(1, .ptr 0 0), (2, .str ([] : List UInt8)), (3, .vc 1)]) (H2 := [.box (encSt23 x0), vecL (encI .u8) 1 5 ([45] : List Int)]) 0 (by rw [hFH]; rfl) hFD [0, 2] (by kernel_rfl) (by kernel_rfl) (by decide) (by kernel_rfl) (by kernel_rfl) (by kernel_rfl) (by kernel_rfl)) ?_
   exact kN [1, 2, 3]
  ·have h12 := condF hb10 hy7
   refine kF ?_
   refine kK ?_
   obtain rfl := oi h12
   refine PJ.wk (Wk.viv 3 1 5 (by kernel_rfl)) ?_
   exact kN [1, 2, 3]
 ·obtain ⟨s18, hy20, h22⟩ := bindS h9
  refine K.cutN (by kernel_rfl) (fun (s18 : (List Int)) => ([(1, .ptr 0 0), (2, .str ([] : List UInt8)), (3, .vc 1)], [.box (encSt23 x0), vecL (encI .u8) 1 5 s18])) s18 ?_ ?_
  ·refine kSR ?_
   refine kC 4 [1,2,3,14] ?_
   refine kEN ?_
   refine J.caseB 14 (b := (decide ((x0.D_.length : Int) = 0))) (by kernel_rfl) (fun hb23 => ?_) (fun hb23 => ?_)
   ·have h24 := condT hb23 hy20
    refine kT ?_
    refine kR ?_
    refine kC 2 [1,2,3,15,16] ?_
    obtain ⟨hm, h26⟩ := asrt h24
    refine RJ.rel (d := (some 17)) (ef := ⟨.vc 3, [1, 2], [(1, .gone), (3, .vec (s5.length + ([48] : List Int).length) 1 5 (s5.flatMap (encI .u8) ++ ([48] : List Int).flatMap (encI .u8)))]⟩) (ef' := ⟨.vc 3, [1, 2], [(1, .gone), (3, vecL (encI .u8) 1 5 (s5 ++ ([48] : List Int)))]⟩) (c := roomB (s5.length + ([48] : List Int).length)) (tr2 := []) (H2 := [.box (encSt23 x0), .gone, vecL (encI .u8) 1 5 ([48] : List Int), vecL (encI .u8) 1 5 (s5 ++ ([48] : List Int))]) (by kernel_rfl) (roomB_of_room hm) (fun hc => N.app) (by kernel_rfl) ?_
    refine kC 1 [1,2,3] ?_
    refine kE ?_
    obtain rfl := oi h26
    refine PJ.wk (Wk.sel (L2 := [(1, .ptr 0 0), (2, .str ([] : List UInt8)), (3, .vc 1)]) (H2 := [.box (encSt23 x0), vecL (encI .u8) 1 5 (s5 ++ ([48] : List Int))]) 0 (by rw [hFH]; rfl) hFD [0, 3] (by kernel_rfl) (by kernel_rfl) (by decide) (by kernel_rfl) (by kernel_rfl) (by kernel_rfl) (by kernel_rfl)) ?_
    exact kN [1, 2, 3]
   ·have h25 := condF hb23 hy20
    refine kF ?_
    refine kK ?_
    obtain rfl := oi h25
    exact kN [1, 2, 3]
  ·obtain ⟨s51, hy53, h55⟩ := bindS h22
   refine K.cutN (by kernel_rfl) (fun (s51 : (List Int)) => ([(1, .ptr 0 0), (2, .str ([] : List UInt8)), (3, .vc 1)], [.box (encSt23 x0), vecL (encI .u8) 1 5 s51])) s51 ?_ ?_
   ·refine kSR ?_
    refine kC 4 [1,2,3,19,20,21] ?_
    refine kEN ?_
    refine K.block 0 (by kernel_rfl) ?_
    refine K.loop (by kernel_rfl) (fun (s56 : Int × (List Int)) => ([(1, .ptr 0 0), (2, .str ([] : List UInt8)), (3, .vc 1), (19, lsv (encI .u8) 1 x0.D_), (20, .int .i64 (x0.D_.length : Int)), (21, .int .i64 s56.1)], [.box (encSt23 x0), vecL (encI .u8) 1 5 s56.2])) hy53 [1, 2, 3, 19, 20, 21] (by kernel_rfl) (by kernel_rfl) (fun s56 x72 hs71 => ?_)
    refine kSR ?_
    refine kC 1 [1,2,3,19,20,21,22] ?_
    refine kEN ?_
    refine kS ?_
    refine J.caseB 22 (b := (decide (s56.1 < (x0.D_.length : Int)))) (by kernel_rfl) (fun hb73 => ?_) (fun hb73 => ?_)
    ·have h74 := condT hb73 hs71
     refine kT ?_
     refine kK ?_
     refine PJ.next ?_
     refine kS ?_
     refine K.block 1 (by kernel_rfl) ?_
     refine kSR ?_
     obtain ⟨hm, h76⟩ := asrt h74
     refine RJ.rel (d := (some 23)) (ef := ⟨.ep (((x0.D_.flatMap (encI .u8)).drop ((s56.1 : Int).toNat * 1)).take 1), [], []⟩) (ef' := ⟨.ep ((encI .u8) (nth x0.D_ s56.1)), [], []⟩) (c := inR s56.1 x0.D_.length) (tr2 := []) (H2 := [.box (encSt23 x0), vecL (encI .u8) 1 5 s56.2]) (by kernel_rfl) hm (fun hc => N.idx (encI_len .u8) hc) (by kernel_rfl) ?_
     refine kC 2 [1,2,3,5,19,20,21] ?_
     refine kEN ?_
     refine kR ?_
     refine kC 4 [1,2,3,19,20,21,25,28] ?_
     obtain ⟨hm, h77⟩ := asrt h76
     refine RJ.rel (d := (some 29)) (ef := ⟨.vc 3, [1, 2], [(1, .gone), (3, .vec (s56.2.length + (([(IntKind.wrap .u8 (48 + (nth x0.D_ s56.1)))] : List Int)).length) 1 5 (s56.2.flatMap (encI .u8) ++ (([(IntKind.wrap .u8 (48 + (nth x0.D_ s56.1)))] : List Int)).flatMap (encI .u8)))]⟩) (ef' := ⟨.vc 3, [1, 2], [(1, .gone), (3, vecL (encI .u8) 1 5 (s56.2 ++ (([(IntKind.wrap .u8 (48 + (nth x0.D_ s56.1)))] : List Int))))]⟩) (c := roomB (s56.2.length + (([(IntKind.wrap .u8 (48 + (nth x0.D_ s56.1)))] : List Int)).length)) (tr2 := []) (H2 := [.box (encSt23 x0), .gone, vecL (encI .u8) 1 5 (([(IntKind.wrap .u8 (48 + (nth x0.D_ s56.1)))] : List Int)), vecL (encI .u8) 1 5 ((s56.2 ++ (([(IntKind.wrap .u8 (48 + (nth x0.D_ s56.1)))] : List Int))))]) (by kernel_rfl) (roomB_of_room hm) (fun hc => N.app) (by kernel_rfl) ?_
     refine RJ.seg 1 [1, 2, 3, 19, 20, 21] (L2 := [(1, .ptr 0 0), (2, .str ([] : List UInt8)), (3, .vc 3), (19, lsv (encI .u8) 1 x0.D_), (20, .int .i64 (x0.D_.length : Int)), (21, .int .i64 s56.1)]) (H2 := [.box (encSt23 x0), .gone, vecL (encI .u8) 1 5 (([(IntKind.wrap .u8 (48 + (nth x0.D_ s56.1)))] : List Int)), vecL (encI .u8) 1 5 ((s56.2 ++ (([(IntKind.wrap .u8 (48 + (nth x0.D_ s56.1)))] : List Int))))]) (by kernel_rfl) ?_
     refine kE ?_
     refine PJ.blockNormal ?_
     refine PJ.next ?_
     refine kR ?_
     refine kC 2 [1,2,3,19,20,21] ?_
     refine kE ?_
     obtain rfl := oi h77
     refine PJ.wk (Wk.sel (L2 := [(1, .ptr 0 0), (2, .str ([] : List UInt8)), (3, .vc 1), (19, lsv (encI .u8) 1 x0.D_), (20, .int .i64 (x0.D_.length : Int)), (21, .int .i64 (IntKind.wrap .i64 (s56.1 + 1)))]) (H2 := [.box (encSt23 x0), vecL (encI .u8) 1 5 ((s56.2 ++ (([(IntKind.wrap .u8 (48 + (nth x0.D_ s56.1)))] : List Int))))]) 0 (by rw [hFH]; rfl) hFD [0, 3] (by kernel_rfl) (by kernel_rfl) (by decide) (by kernel_rfl) (by kernel_rfl) (by kernel_rfl) (by kernel_rfl)) ?_
     exact PJ.loopNext [1, 2, 3, 19, 20, 21] (by kernel_rfl) (by kernel_rfl)
    ·have h75 := condF hb73 hs71
     refine kF ?_
     refine K.exit 0 (by kernel_rfl) ?_
     refine PJ.passExit ?_
     obtain rfl := oi h75
     refine PJ.loopOut (fun e => nomatch e) (fun he79 => ?_)
     have h78 := congrArg some he79
     refine PJ.blockOut ?_
     obtain rfl := oi h78
     exact kN [1, 2, 3]
   ·refine kS ?_
    refine J.keep [1, 2, 3] (L2 := [(1, .ptr 0 0), (2, .str ([] : List UInt8)), (3, .vc 1)]) (by kernel_rfl) ?_
    refine K.draw (by kernel_rfl) (by kernel_rfl) (by kernel_rfl) (H2 := [.box (encSt23 x0), vecL (encI .u8) 1 5 s51, .res]) (by kernel_rfl) (n := 2) (by kernel_rfl) ?_
    refine kD 1 ?_
    refine RJ.rel (d := (some 32)) (ef := ⟨.str ((s51.flatMap (encI .u8)).map Go.Sy.byteOf), [1], []⟩) (ef' := ⟨.str (bytesS s51), [1], []⟩) (c := (s51.flatMap (encI .u8)).all isByte) (tr2 := [([], []), ([2, 3], [])]) (H2 := [.box (encSt23 x0), vecL (encI .u8) 1 5 s51, .res]) (by kernel_rfl) (allByte s51) (fun hc => N.toStr) (by kernel_rfl) ?_
    obtain ⟨hm, h80⟩ := asrt h55
    refine RJ.rel (d := (some 33)) (ef := ⟨.str ((bytesS s51) ++ ([101] : List UInt8)), [], []⟩) (ef' := ⟨.str ((bytesS s51) ++ ([101] : List UInt8)), [], []⟩) (c := room ((bytesS s51).length + ([101] : List UInt8).length)) (tr2 := [([], []), ([2, 3], []), ([], [])]) (H2 := [.box (encSt23 x0), vecL (encI .u8) 1 5 s51, .res]) (by kernel_rfl) hm (fun hc => rfl) (by kernel_rfl) ?_
    refine kD 2 ?_
    obtain ⟨y81, hy82, h83⟩ := bindS h80
    refine RJ.call0 (d := (some 36)) (f := 28) (args := [.int .i64 x0.E_]) (v := .str y81) (tr2 := [([], []), ([2, 3], []), ([], []), ([], []), ([0, 1], []), ([], [4, 5])]) (by kernel_rfl) (by kernel_rfl) (.cons (Le.refl _) .nil) (strconv_Itoa_ok hy82) (by kernel_rfl) ?_
    obtain ⟨hm, h84⟩ := asrt h83
    refine RJ.rel (d := (some 37)) (ef := ⟨.str (((bytesS s51) ++ ([101] : List UInt8)) ++ y81), [], []⟩) (ef' := ⟨.str (((bytesS s51) ++ ([101] : List UInt8)) ++ y81), [], []⟩) (c := room (((bytesS s51) ++ ([101] : List UInt8)).length + y81.length)) (tr2 := [([], []), ([2, 3], []), ([], []), ([], []), ([0, 1], []), ([], [4, 5]), ([], [])]) (H2 := [.box (encSt23 x0), vecL (encI .u8) 1 5 s51, .res]) (by kernel_rfl) hm (fun hc => rfl) (by kernel_rfl) ?_
    refine kD 1 ?_
    refine kEN ?_
    refine kX ?_
    obtain rfl := oi h84
    exact kZ hFn hFH hFD

structure St59 where
 Dec_ : St23
 deriving Inhabited, DecidableEq
def encSt59 (x : St59) : List SV := [.bool x.Dec_.Neg_, lsv (encI .u8) 1 x.Dec_.D_, .int .i64 x.Dec_.E_]
theorem encSt59_len (x : St59) : (encSt59 x).length = 3 := rfl

def dec_work__mag (x0 : St59) : Option (Int) :=
 (bif (decide ((x0.Dec_.D_.length : Int) = 0)) then (some 0) else (some (IntKind.wrap .i64 (((IntKind.wrap .i64 (x0.Dec_.E_ + (x0.Dec_.D_.length : Int)))) - 1))))
theorem dec_work__mag_ok {x0 : St59} {r : Int} (h : dec_work__mag x0 = some r) : SC Tryd.prog 34 [.agg (encSt59 x0)] [] (.int .i64 r) [] := by
 refine kFn (fn := Tryd.f34) (fun F hFn hFH hFD => ?_)
 unfold dec_work__mag at h
 refine kSR ?_
 refine kC 2 [1,2] ?_
 refine kEN ?_
 refine kS ?_
 refine kSR ?_
 refine kC 5 [1,2,7] ?_
 refine kEN ?_
 refine J.caseB 7 (b := (decide ((x0.Dec_.D_.length : Int) = 0))) (by kernel_rfl) (fun hb1 => ?_) (fun hb1 => ?_)
 ·have h2 := condT hb1 h
  refine kT ?_
  refine kSR ?_
  refine kC 1 [1,2] ?_
  refine kEN ?_
  refine kX ?_
  refine PJ.passRet ?_
  obtain rfl := oi h2
  exact kZ hFn hFH hFD
 ·have h3 := condF hb1 h
  refine kF ?_
  refine kK ?_
  refine PJ.next ?_
  refine kSR ?_
  refine kC 10 [2] ?_
  refine kEN ?_
  refine kX ?_
  obtain rfl := oi h3
  exact kZ hFn hFH hFD

def dec_Mag (x0 : St23) : Option (Int) :=
 (Option.bind (dec_work__mag (⟨x0⟩ : St59)) fun y1 => (some y1))
theorem dec_Mag_ok {x0 : St23} {r : Int} (h : dec_Mag x0 = some r) : SC Tryd.prog 20 [.agg (encSt23 x0)] [] (.int .i64 r) [] := by
 refine kFn (fn := Tryd.f20) (fun F hFn hFH hFD => ?_)
 unfold dec_Mag at h
 refine kSR ?_
 refine kC 2 [1,2] ?_
 refine kEN ?_
 refine kSR ?_
 refine kC 2 [2,4] ?_
 obtain ⟨y1, hy2, h3⟩ := bindS h
 refine RJ.call0 (d := (some 5)) (f := 34) (args := [.agg (encSt23 x0)]) (v := .int .i64 y1) (tr2 := []) (by kernel_rfl) (by kernel_rfl) (.cons (Le.refl _) .nil) (dec_work__mag_ok hy2) (by kernel_rfl) ?_
 refine kC 1 [2] ?_
 refine kEN ?_
 refine kX ?_
 obtain rfl := oi h3
 exact kZ hFn hFH hFD

def slices_Equal (x0 : List Int) (x1 : List Int) : Option (Bool) :=
 (bif (decide (¬ (x0.length : Int) = (x1.length : Int))) then (some false) else (Option.bind (loopN (fun (s51 : Int) => (bif (decide (s51 < (x0.length : Int))) then (bif inR s51 x0.length then (bif inR s51 x1.length then (bif (decide (¬ (nth x0 s51) = (nth x1 s51))) then (some (.inr (.inr false))) else (some (.inl (IntKind.wrap .i64 (s51 + 1))))) else none) else none) else (some (.inr (.inl ()))))) big 0) (joinX fun (s46 : Unit) => (some true))))
theorem slices_Equal_ok {x0 : List Int} {x1 : List Int} {r : Bool} (h : slices_Equal x0 x1 = some r) : SC Tryd.prog 37 [lsv (encI .u8) 1 x0, lsv (encI .u8) 1 x1] [] (.bool r) [] := by
 refine kFn (fn := Tryd.f37) (fun F hFn hFH hFD => ?_)
 unfold slices_Equal at h
 refine kSR ?_
 refine kC 1 [0,1,4] ?_
 refine kEN ?_
 refine kS ?_
 refine kSR ?_
 refine kC 5 [0,1,4,10] ?_
 refine kEN ?_
 refine J.caseB 10 (b := (decide (¬ (x0.length : Int) = (x1.length : Int)))) (by kernel_rfl) (fun hb1 => ?_) (fun hb1 => ?_)
 ·have h2 := condT hb1 h
  refine kT ?_
  refine kSR ?_
  refine kC 1 [0,1,4] ?_
  refine kEN ?_
  refine kX ?_
  refine PJ.passRet ?_
  obtain rfl := oi h2
  exact kZ hFn hFH hFD
 ·have h3 := condF hb1 h
  refine kF ?_
  refine kK ?_
  refine PJ.next ?_
  obtain ⟨y47, hy48, h49⟩ := bindS h3
  refine K.cutX (by kernel_rfl) (fun (s46 : Unit) => ([(4, .bool false)], [])) y47 ?_ (fun s46 hs => ?_)
  ·refine kSR ?_
   refine kC 3 [0,1,4,12,13] ?_
   refine kEN ?_
   refine K.block 0 (by kernel_rfl) ?_
   refine K.loop (by kernel_rfl) (fun (s51 : Int) => ([(0, lsv (encI .u8) 1 x0), (1, lsv (encI .u8) 1 x1), (4, .bool false), (12, .int .i64 (x0.length : Int)), (13, .int .i64 s51)], [])) hy48 [0, 1, 4, 12, 13] (by kernel_rfl) (by kernel_rfl) (fun s51 x79 hs78 => ?_)
   refine kSR ?_
   refine kC 1 [0,1,4,12,13,14] ?_
   refine kEN ?_
   refine kS ?_
   refine J.caseB 14 (b := (decide (s51 < (x0.length : Int)))) (by kernel_rfl) (fun hb80 => ?_) (fun hb80 => ?_)
   ·have h81 := condT hb80 hs78
    refine kT ?_
    refine kK ?_
    refine PJ.next ?_
    refine kS ?_
    refine K.block 1 (by kernel_rfl) ?_
    refine kSR ?_
    refine kC 2 [0,1,4,5,12,13] ?_
    refine kEN ?_
    refine kS ?_
    refine J.keep [0, 1, 4, 5, 12, 13] (L2 := [(0, lsv (encI .u8) 1 x0), (1, lsv (encI .u8) 1 x1), (4, .bool false), (5, .int .i64 s51), (12, .int .i64 (x0.length : Int)), (13, .int .i64 s51)]) (by kernel_rfl) ?_
    refine K.draw (by kernel_rfl) (by kernel_rfl) (by kernel_rfl) (H2 := []) (by kernel_rfl) (n := 0) (by kernel_rfl) ?_
    refine kD 2 ?_
    obtain ⟨hm, h83⟩ := asrt h81
    refine RJ.rel (d := (some 18)) (ef := ⟨.ep (((x0.flatMap (encI .u8)).drop ((s51 : Int).toNat * 1)).take 1), [], []⟩) (ef' := ⟨.ep ((encI .u8) (nth x0 s51)), [], []⟩) (c := inR s51 x0.length) (tr2 := [([], []), ([], []), ([], [])]) (H2 := []) (by kernel_rfl) hm (fun hc => N.idx (encI_len .u8) hc) (by kernel_rfl) ?_
    refine RJ.segD 3 (tr2 := [([], []), ([], []), ([], []), ([], []), ([], []), ([], [])]) (L2 := [(21, .int .i64 s51), (20, lsv (encI .u8) 1 x1), (19, .int .u8 (nth x0 s51)), (18, .ep [.int .u8 (nth x0 s51)]), (17, .int .i64 s51), (16, lsv (encI .u8) 1 x0), (0, lsv (encI .u8) 1 x0), (1, lsv (encI .u8) 1 x1), (4, .bool false), (5, .int .i64 s51), (12, .int .i64 (x0.length : Int)), (13, .int .i64 s51)]) (H2 := []) (by kernel_rfl) ?_
    obtain ⟨hm, h84⟩ := asrt h83
    refine RJ.rel (d := (some 22)) (ef := ⟨.ep (((x1.flatMap (encI .u8)).drop ((s51 : Int).toNat * 1)).take 1), [], []⟩) (ef' := ⟨.ep ((encI .u8) (nth x1 s51)), [], []⟩) (c := inR s51 x1.length) (tr2 := [([], []), ([], []), ([], []), ([], []), ([], []), ([], []), ([], [])]) (H2 := []) (by kernel_rfl) hm (fun hc => N.idx (encI_len .u8) hc) (by kernel_rfl) ?_
    refine kD 2 ?_
    refine kEN ?_
    refine J.caseB 24 (b := (decide (¬ (nth x0 s51) = (nth x1 s51)))) (by kernel_rfl) (fun hb85 => ?_) (fun hb85 => ?_)
    ·have h86 := condT hb85 h84
     refine kT ?_
     refine kSR ?_
     refine kC 1 [0,1,4,12,13] ?_
     refine kEN ?_
     refine kX ?_
     refine PJ.blockRet ?_
     refine PJ.passRet ?_
     obtain rfl := oi h86
     refine PJ.loopOut (fun e => nomatch e) (fun he90 => ?_)
     have h88 := congrArg some he90
     refine PJ.blockRet ?_
     obtain rfl := oi h88
     have h89 := joinX_inr h49
     refine PJ.cutXr (fun e => nomatch e) ?_
     obtain rfl := oi h89
     exact kZ hFn hFH hFD
    ·have h87 := condF hb85 h84
     refine kF ?_
     refine kK ?_
     refine PJ.blockNormal ?_
     refine PJ.next ?_
     refine kR ?_
     refine kC 2 [0,1,4,12,13] ?_
     refine kE ?_
     obtain rfl := oi h87
     exact PJ.loopNext [0, 1, 4, 12, 13] (by kernel_rfl) (by kernel_rfl)
   ·have h82 := condF hb80 hs78
    refine kF ?_
    refine K.exit 0 (by kernel_rfl) ?_
    refine PJ.passExit ?_
    obtain rfl := oi h82
    refine PJ.loopOut (fun e => nomatch e) (fun he92 => ?_)
    have h91 := congrArg some he92
    refine PJ.blockOut ?_
    obtain rfl := oi h91
    exact PJ.cutXl [4] (by kernel_rfl) (by kernel_rfl)
  ·subst hs
   have h50 := joinX_inl h49
   refine kSR ?_
   refine kC 1 [4] ?_
   refine kEN ?_
   refine kX ?_
   obtain rfl := oi h50
   exact kZ hFn hFH hFD

def dec_Same (x0 : St23) (x1 : St23) : Option (Bool) :=
 (Option.bind (bif (x0.Neg_ == x1.Neg_) then (bif (decide (x0.E_ = x1.E_)) then (Option.bind (slices_Equal x0.D_ x1.D_) fun y21 => (some y21)) else (some false)) else (some false)) fun (s10 : Bool) => (some s10))
theorem dec_Same_ok {x0 : St23} {x1 : St23} {r : Bool} (h : dec_Same x0 x1 = some r) : SC Tryd.prog 23 [.agg (encSt23 x0), .agg (encSt23 x1)] [] (.bool r) [] := by
 refine kFn (fn := Tryd.f23) (fun F hFn hFH hFD => ?_)
 unfold dec_Same at h
 refine kSR ?_
 refine kC 3 [2,3,4] ?_
 refine kEN ?_
 obtain ⟨s10, hy12, h14⟩ := bindS h
 refine K.cutN (by kernel_rfl) (fun (s10 : Bool) => ([(4, .bool s10)], [])) s10 ?_ ?_
 ·refine kR ?_
  refine kC 6 [2,3,4,10] ?_
  refine RJ.caseB 10 (b := (x0.Neg_ == x1.Neg_)) (by kernel_rfl) (fun hb15 => ?_) (fun hb15 => ?_)
  ·have h16 := condT hb15 hy12
   refine kC 7 [2,3,4,17] ?_
   refine RJ.caseB 17 (b := (decide (x0.E_ = x1.E_))) (by kernel_rfl) (fun hb18 => ?_) (fun hb18 => ?_)
   ·have h19 := condT hb18 h16
    refine RJ.seg 4 [4, 17, 19, 21] (L2 := [(4, .bool false), (17, .bool true), (19, lsv (encI .u8) 1 x0.D_), (21, lsv (encI .u8) 1 x1.D_)]) (H2 := [.box (encSt23 x0), .box (encSt23 x1)]) (by kernel_rfl) ?_
    obtain ⟨y21, hy22, h23⟩ := bindS h19
    refine RJ.call0 (d := (some 22)) (f := 37) (args := [lsv (encI .u8) 1 x0.D_, lsv (encI .u8) 1 x1.D_]) (v := .bool y21) (tr2 := []) (by kernel_rfl) (by kernel_rfl) (.cons (Le.refl _) (.cons (Le.refl _) .nil)) (slices_Equal_ok hy22) (by kernel_rfl) ?_
    refine kC 2 [4] ?_
    refine kE ?_
    obtain rfl := oi h23
    refine PJ.wk (Wk.sel (L2 := [(4, .bool y21)]) (H2 := []) 0 (by rw [hFH]; rfl) hFD [] (by kernel_rfl) (by kernel_rfl) (by decide) (by kernel_rfl) (by kernel_rfl) (by kernel_rfl) (by kernel_rfl)) ?_
    exact kN [4]
   ·have h20 := condF hb18 h16
    refine RJ.seg 7 [4] (L2 := [(4, .bool false)]) (H2 := [.box (encSt23 x0), .box (encSt23 x1)]) (by kernel_rfl) ?_
    refine kE ?_
    obtain rfl := oi h20
    refine PJ.wk (Wk.sel (L2 := [(4, .bool false)]) (H2 := []) 0 (by rw [hFH]; rfl) hFD [] (by kernel_rfl) (by kernel_rfl) (by decide) (by kernel_rfl) (by kernel_rfl) (by kernel_rfl) (by kernel_rfl)) ?_
    exact kN [4]
  ·have h17 := condF hb15 hy12
   refine kC 14 [4] ?_
   refine kE ?_
   obtain rfl := oi h17
   refine PJ.wk (Wk.sel (L2 := [(4, .bool false)]) (H2 := []) 0 (by rw [hFH]; rfl) hFD [] (by kernel_rfl) (by kernel_rfl) (by decide) (by kernel_rfl) (by kernel_rfl) (by kernel_rfl) (by kernel_rfl)) ?_
   exact kN [4]
 ·refine kX ?_
  obtain rfl := oi h14
  exact kZ hFn hFH hFD

def dec_work__side (x0 : St59) : Option (Int) :=
 (bif (decide ((x0.Dec_.D_.length : Int) = 0)) then (some 0) else (bif x0.Dec_.Neg_ then (some (-1)) else (some 1)))
theorem dec_work__side_ok {x0 : St59} {r : Int} (h : dec_work__side x0 = some r) : SC Tryd.prog 30 [.agg (encSt59 x0)] [] (.int .i64 r) [] := by
 refine kFn (fn := Tryd.f30) (fun F hFn hFH hFD => ?_)
 unfold dec_work__side at h
 refine kSR ?_
 refine kC 2 [1,2] ?_
 refine kEN ?_
 refine kS ?_
 refine K.block 0 (by kernel_rfl) ?_
 refine kSR ?_
 refine kC 6 [1,2,3] ?_
 refine kEN ?_
 refine J.caseB 3 (b := (decide ((x0.Dec_.D_.length : Int) = 0))) (by kernel_rfl) (fun hb1 => ?_) (fun hb1 => ?_)
 ·have h2 := condT hb1 h
  refine kT ?_
  refine kSR ?_
  refine kC 1 [2] ?_
  refine kEN ?_
  refine kX ?_
  refine PJ.blockRet ?_
  refine PJ.passRet ?_
  obtain rfl := oi h2
  exact kZ hFn hFH hFD
 ·have h3 := condF hb1 h
  refine kF ?_
  refine kSR ?_
  refine kC 4 [2,9] ?_
  refine kEN ?_
  refine J.caseB 9 (b := x0.Dec_.Neg_) (by kernel_rfl) (fun hb4 => ?_) (fun hb4 => ?_)
  ·have h5 := condT hb4 h3
   refine kT ?_
   refine kSR ?_
   refine RJ.seg 1 [2] (L2 := [(2, .int .i64 (-1))]) (H2 := [.box (encSt59 x0)]) (by kernel_rfl) ?_
   refine kEN ?_
   refine kX ?_
   refine PJ.blockRet ?_
   refine PJ.passRet ?_
   obtain rfl := oi h5
   exact kZ hFn hFH hFD
  ·have h6 := condF hb4 h3
   refine kF ?_
   refine kK ?_
   refine PJ.blockNormal ?_
   refine PJ.next ?_
   refine kSR ?_
   refine RJ.seg 1 [2] (L2 := [(2, .int .i64 1)]) (H2 := [.box (encSt59 x0)]) (by kernel_rfl) ?_
   refine kEN ?_
   refine kX ?_
   obtain rfl := oi h6
   exact kZ hFn hFH hFD

def dec_sign (x0 : Int) : Option (Int) :=
 (bif (decide (x0 < 0)) then (some (-1)) else (bif (decide (x0 > 0)) then (some 1) else (some 0)))
theorem dec_sign_ok {x0 : Int} {r : Int} (h : dec_sign x0 = some r) : SC Tryd.prog 31 [.int .i64 x0] [] (.int .i64 r) [] := by
 refine kFn (fn := Tryd.f31) (fun F hFn hFH hFD => ?_)
 unfold dec_sign at h
 refine kSR ?_
 refine kC 1 [0,2] ?_
 refine kEN ?_
 refine kS ?_
 refine K.block 0 (by kernel_rfl) ?_
 refine kSR ?_
 refine kC 3 [0,2,3] ?_
 refine kEN ?_
 refine J.caseB 3 (b := (decide (x0 < 0))) (by kernel_rfl) (fun hb1 => ?_) (fun hb1 => ?_)
 ·have h2 := condT hb1 h
  refine kT ?_
  refine kSR ?_
  refine kC 1 [2] ?_
  refine kEN ?_
  refine kX ?_
  refine PJ.blockRet ?_
  refine PJ.passRet ?_
  obtain rfl := oi h2
  exact kZ hFn hFH hFD
 ·have h3 := condF hb1 h
  refine kF ?_
  refine kSR ?_
  refine kC 3 [2,6] ?_
  refine kEN ?_
  refine J.caseB 6 (b := (decide (x0 > 0))) (by kernel_rfl) (fun hb4 => ?_) (fun hb4 => ?_)
  ·have h5 := condT hb4 h3
   refine kT ?_
   refine kSR ?_
   refine RJ.seg 1 [2] (L2 := [(2, .int .i64 1)]) (H2 := []) (by kernel_rfl) ?_
   refine kEN ?_
   refine kX ?_
   refine PJ.blockRet ?_
   refine PJ.passRet ?_
   obtain rfl := oi h5
   exact kZ hFn hFH hFD
  ·have h6 := condF hb4 h3
   refine kF ?_
   refine kK ?_
   refine PJ.blockNormal ?_
   refine PJ.next ?_
   refine kSR ?_
   refine RJ.seg 1 [2] (L2 := [(2, .int .i64 0)]) (H2 := []) (by kernel_rfl) ?_
   refine kEN ?_
   refine kX ?_
   obtain rfl := oi h6
   exact kZ hFn hFH hFD

def dec_work__figure (x0 : St59) (x1 : Int) : Option (Int) :=
 (Option.bind (Option.bind (bif (decide (x1 < 0)) then (some true) else (some ((decide (x1 ≥ (x0.Dec_.D_.length : Int)))))) fun (s24 : Bool) => (bif s24 then (some (.inr 0)) else (some (.inl ())))) (joinX fun (s16 : Unit) => (bif inR x1 x0.Dec_.D_.length then (some (nth x0.Dec_.D_ x1)) else none)))
theorem dec_work__figure_ok {x0 : St59} {x1 : Int} {r : Int} (h : dec_work__figure x0 x1 = some r) : SC Tryd.prog 35 [.agg (encSt59 x0), .int .i64 x1] [] (.int .u8 r) [] := by
 refine kFn (fn := Tryd.f35) (fun F hFn hFH hFD => ?_)
 unfold dec_work__figure at h
 refine kSR ?_
 refine kC 2 [1,2,4] ?_
 refine kEN ?_
 obtain ⟨y17, hy18, h19⟩ := bindS h
 refine K.cutX (by kernel_rfl) (fun (s16 : Unit) => ([(1, .int .i64 x1), (2, .ptr 0 0), (4, .int .u8 0)], [.box (encSt59 x0)])) y17 ?_ (fun s16 hs => ?_)
 ·obtain ⟨s24, hy26, h28⟩ := bindS hy18
  refine K.cutN (by kernel_rfl) (fun (s24 : Bool) => ([(1, .int .i64 x1), (2, .ptr 0 0), (4, .int .u8 0), (14, .bool s24)], [.box (encSt59 x0)])) s24 ?_ ?_
  ·refine kR ?_
   refine kC 3 [1,2,4,7] ?_
   refine RJ.caseB 7 (b := (decide (x1 < 0))) (by kernel_rfl) (fun hb29 => ?_) (fun hb29 => ?_)
   ·have h30 := condT hb29 hy26
    refine kC 7 [1,2,4,14] ?_
    refine kE ?_
    obtain rfl := oi h30
    exact kN [1, 2, 4, 14]
   ·have h31 := condF hb29 hy26
    refine kC 7 [1,2,4,14] ?_
    refine kE ?_
    obtain rfl := oi h31
    exact kN [1, 2, 4, 14]
  ·refine J.caseB 14 (b := s24) (by kernel_rfl) (fun hb32 => ?_) (fun hb32 => ?_)
   ·have h33 := condT hb32 h28
    refine kT ?_
    refine kSR ?_
    refine kC 1 [1,2,4] ?_
    refine kEN ?_
    refine kX ?_
    obtain rfl := oi h33
    have h35 := joinX_inr h19
    refine PJ.cutXr (fun e => nomatch e) ?_
    obtain rfl := oi h35
    exact kZ hFn hFH hFD
   ·have h34 := condF hb32 h28
    refine kF ?_
    refine kK ?_
    obtain rfl := oi h34
    exact PJ.cutXl [1, 2, 4] (by kernel_rfl) (by kernel_rfl)
 ·subst hs
  have h20 := joinX_inl h19
  refine kSR ?_
  refine kC 4 [4,17,18] ?_
  obtain ⟨hm, h36⟩ := asrt h20
  refine RJ.rel (d := (some 19)) (ef := ⟨.ep (((x0.Dec_.D_.flatMap (encI .u8)).drop ((x1 : Int).toNat * 1)).take 1), [], []⟩) (ef' := ⟨.ep ((encI .u8) (nth x0.Dec_.D_ x1)), [], []⟩) (c := inR x1 x0.Dec_.D_.length) (tr2 := []) (H2 := [.box (encSt59 x0)]) (by kernel_rfl) hm (fun hc => N.idx (encI_len .u8) hc) (by kernel_rfl) ?_
  refine kC 2 [4] ?_
  refine kEN ?_
  refine kX ?_
  obtain rfl := oi h36
  exact kZ hFn hFH hFD

end Go.Proofs.YtcldeecdhdcjdaaDoor
