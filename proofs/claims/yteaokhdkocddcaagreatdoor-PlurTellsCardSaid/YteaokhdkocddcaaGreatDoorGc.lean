/-
  What the functions of this program come to, as functions of natives, each with the proof that it does. No conditions.
-/
import Derived.Test.YteaokhdkocddcaaGreatDoorProg
import Derived.Test.YteaokhdkocddcaaGreatDoorSySL
import Derived.Test.YteaokhdkocddcaaGreatDoorGb
namespace Go.Proofs.YteaokhdkocddcaaGreatDoor
open Go Go.Sy Go.RowKit
set_option linter.unusedVariables false
set_option linter.unusedSimpArgs false
set_option maxRecDepth 100000
set_option maxHeartbeats 4000000
def exergueref12_Right (x0 : List St46) : Option (Bool) :=
 (Option.bind (loopN (fun (s327 : Int) => (bif (decide (s327 < (x0.length : Int))) then (Option.bind (bif inR s327 x0.length then (Option.bind (exergueref11_Right ((nth x0 s327).C_)) fun y599 => (Option.bind (bif (!y599) then (some true) else (bif inR s327 x0.length then (bif (decide (((nth x0 s327).Cat_) < 1)) then (some true) else (bif inR s327 x0.length then (bif (decide (((nth x0 s327).Cat_) > 5)) then (some true) else (bif (decide (s327 > 0)) then (bif inR s327 x0.length then (bif inR (IntKind.wrap .i64 (s327 - 1)) x0.length then (some ((decide (((nth x0 s327).Cat_) ≤ ((nth x0 (IntKind.wrap .i64 (s327 - 1))).Cat_))))) else none) else none) else (some false))) else none)) else none)) fun (s618 : Bool) => (bif s618 then (some (.inr (.inr (.inr false)))) else (some (.inl ()))))) else none) (joinX fun (s593 : Unit) => (some (.inl (IntKind.wrap .i64 (s327 + 1)))))) else (some (.inr (.inl ()))))) big 0) (joinX fun (s322 : Unit) => (some true)))
theorem exergueref12_Right_ok {x0 : List St46} {r : Bool} (h : exergueref12_Right x0 = some r) : SC Tryz.prog 16 [lsv encSt46 2 x0] [] (.bool r) [] := by
 refine kFn (fn := Tryz.f16) (fun F hFn hFH hFD => ?_)
 unfold exergueref12_Right at h
 refine kSR ?_
 refine kC 1 [0,2] ?_
 refine kEN ?_
 obtain ⟨y323, hy324, h325⟩ := bindS h
 refine K.cutX (by kernel_rfl) (fun (s322 : Unit) => ([(2, .bool false)], [])) y323 ?_ (fun s322 hs => ?_)
 ·refine kSR ?_
  refine kC 1 [0,2,3] ?_
  refine kEN ?_
  refine kb 0 ?_
  refine kl (fun (s327 : Int) => ([(0, lsv encSt46 2 x0), (2, .bool false), (3, .int .i64 s327)], [])) hy324 [0, 2, 3] (fun s327 x541 hs540 => ?_)
  refine kS ?_
  refine kSR ?_
  refine kC 4 [0,2,3,8] ?_
  refine kEN ?_
  refine kBJ 8 hs540 (fun h543 => ?_) (fun h544 => ?_)
  ·refine kT ?_
   refine kK ?_
   refine PJ.next ?_
   obtain ⟨y594, hy595, h596⟩ := bindS h543
   refine K.cutX (by kernel_rfl) (fun (s593 : Unit) => ([(0, lsv encSt46 2 x0), (2, .bool false), (3, .int .i64 s327)], [])) y594 ?_ (fun s593 hs => ?_)
   ·refine kb 1 ?_
    refine kSR ?_
    refine kC 2 [0,2,3,11,12] ?_
    obtain ⟨hm, h598⟩ := asrt hy595
    refine kI 13 encSt46_len hm ?_
    refine kC 2 [0,2,3,15] ?_
    obtain ⟨y599, hy600, h601⟩ := bindS h598
    refine kA 16 (exergueref11_Right_ok hy600) ?_
    refine kC 1 [0,2,3,4] ?_
    refine kEN ?_
    obtain ⟨s618, hy620, h622⟩ := bindS h601
    refine K.cutN (by kernel_rfl) (fun (s618 : Bool) => ([(0, lsv encSt46 2 x0), (2, .bool false), (3, .int .i64 s327), (52, .bool s618)], [])) s618 ?_ ?_
    ·refine J.keep [0, 2, 3, 4] (L2 := [(0, lsv encSt46 2 x0), (2, .bool false), (3, .int .i64 s327), (4, .bool y599)]) (by kernel_rfl) ?_
     refine K.draw (by kernel_rfl) (by kernel_rfl) (by kernel_rfl) (H2 := []) (by kernel_rfl) (n := 0) (by kernel_rfl) ?_
     refine kD 3 ?_
     refine kB 19 hy620 (fun h624 => ?_) (fun h625 => ?_)
     ·refine kD 33 ?_
      refine kE ?_
      obtain rfl := oi h624
      exact kN [0, 2, 3, 52]
     ·refine kD 2 ?_
      obtain ⟨hm, h626⟩ := asrt h625
      refine kJ 22 (tr2 := [([], []), ([], []), ([], []), ([], []), ([], []), ([], [])]) encSt46_len hm ?_
      refine kD 5 ?_
      refine kB 27 h626 (fun h628 => ?_) (fun h629 => ?_)
      ·refine kD 25 ?_
       refine kE ?_
       obtain rfl := oi h628
       exact kN [0, 2, 3, 52]
      ·refine kD 2 ?_
       obtain ⟨hm, h630⟩ := asrt h629
       refine kJ 30 (tr2 := [([], []), ([], []), ([], []), ([], []), ([], []), ([], []), ([], []), ([], []), ([], []), ([], []), ([], []), ([], []), ([], []), ([], [])]) encSt46_len hm ?_
       refine RJ.segD 5 (tr2 := [([], []), ([], []), ([], []), ([], []), ([], []), ([], []), ([], []), ([], []), ([], []), ([], []), ([], []), ([], []), ([], []), ([], []), ([], []), ([], []), ([], []), ([], []), ([], [])]) (L2 := [(35, .bool ((decide (((nth x0 s327).Cat_) > 5)))), (34, .bool ((decide (((nth x0 s327).Cat_) > 5)))), (33, .bool ((decide (((nth x0 s327).Cat_) > 5)))), (32, .int .i64 ((nth x0 s327).Cat_)), (31, .ep [.int .i64 ((nth x0 s327).Cat_), lsv (encL encSt75 4) 1 ((nth x0 s327).C_)]), (30, .ep [.int .i64 ((nth x0 s327).Cat_), lsv (encL encSt75 4) 1 ((nth x0 s327).C_)]), (29, .int .i64 s327), (28, lsv encSt46 2 x0), (27, .bool false), (27, .bool ((decide (((nth x0 s327).Cat_) < 1)))), (26, .bool ((decide (((nth x0 s327).Cat_) < 1)))), (25, .bool ((decide (((nth x0 s327).Cat_) < 1)))), (24, .int .i64 ((nth x0 s327).Cat_)), (23, .ep [.int .i64 ((nth x0 s327).Cat_), lsv (encL encSt75 4) 1 ((nth x0 s327).C_)]), (22, .ep [.int .i64 ((nth x0 s327).Cat_), lsv (encL encSt75 4) 1 ((nth x0 s327).C_)]), (21, .int .i64 s327), (20, lsv encSt46 2 x0), (19, .bool false), (19, .bool (!y599)), (18, .bool (!y599)), (17, .bool y599), (0, lsv encSt46 2 x0), (2, .bool false), (3, .int .i64 s327), (4, .bool y599)]) (H2 := []) (by kernel_rfl) ?_
       refine kB 35 h630 (fun h632 => ?_) (fun h633 => ?_)
       ·refine kD 17 ?_
        refine kE ?_
        obtain rfl := oi h632
        exact kN [0, 2, 3, 52]
       ·refine kD 3 ?_
        refine kB 38 h633 (fun h635 => ?_) (fun h636 => ?_)
        ·refine kD 2 ?_
         obtain ⟨hm, h637⟩ := asrt h635
         refine kJ 41 (tr2 := [([], []), ([], []), ([], []), ([], []), ([], []), ([], []), ([], []), ([], []), ([], []), ([], []), ([], []), ([], []), ([], []), ([], []), ([], []), ([], []), ([], []), ([], []), ([], []), ([], []), ([], []), ([], []), ([], []), ([], []), ([], [])]) encSt46_len hm ?_
         refine kD 5 ?_
         obtain ⟨hm, h638⟩ := asrt h637
         refine kJ 47 (tr2 := [([], []), ([], []), ([], []), ([], []), ([], []), ([], []), ([], []), ([], []), ([], []), ([], []), ([], []), ([], []), ([], []), ([], []), ([], []), ([], []), ([], []), ([], []), ([], []), ([], []), ([], []), ([], []), ([], []), ([], []), ([], []), ([], []), ([], []), ([], []), ([], []), ([], []), ([], [])]) encSt46_len hm ?_
         refine kD 5 ?_
         refine kE ?_
         obtain rfl := oi h638
         exact kN [0, 2, 3, 52]
        ·refine kD 14 ?_
         refine kE ?_
         obtain rfl := oi h636
         exact kN [0, 2, 3, 52]
    ·refine kBJ 52 h622 (fun h640 => ?_) (fun h641 => ?_)
     ·refine kT ?_
      refine kSR ?_
      refine kC 1 [0,2,3] ?_
      refine kEN ?_
      refine kX ?_
      refine PJ.blockRet ?_
      obtain rfl := oi h640
      have h642 := joinX_inr h596
      refine PJ.cutXr (fun e => nomatch e) ?_
      obtain rfl := oi h642
      refine PJ.loopOut (fun e => nomatch e) (fun he645 => ?_)
      have h643 := congrArg some he645
      refine PJ.blockRet ?_
      obtain rfl := oi h643
      have h644 := joinX_inr h325
      refine PJ.cutXr (fun e => nomatch e) ?_
      obtain rfl := oi h644
      exact kZ hFn hFH hFD
     ·refine kF ?_
      refine kK ?_
      refine PJ.blockNormal ?_
      obtain rfl := oi h641
      exact kXl [0, 2, 3]
   ·subst hs
    have h597 := joinX_inl h596
    refine kR ?_
    refine kC 3 [0,2,3] ?_
    refine kE ?_
    obtain rfl := oi h597
    exact kLN [0, 2, 3]
  ·refine kF ?_
   refine K.exit 0 (by kernel_rfl) ?_
   refine PJ.passExit ?_
   obtain rfl := oi h544
   refine PJ.loopOut (fun e => nomatch e) (fun he647 => ?_)
   have h646 := congrArg some he647
   refine PJ.blockOut ?_
   obtain rfl := oi h646
   exact kXl [2]
 ·subst hs
  have h326 := joinX_inl h325
  refine kSR ?_
  refine kC 1 [2] ?_
  refine kEN ?_
  refine kX ?_
  obtain rfl := oi h326
  exact kZ hFn hFH hFD
def plur_Same_1 (x0 : St46) (x1 : St46) : Option (Bool) :=
 (Option.bind (bif (decide (x0.Cat_ = x1.Cat_)) then (Option.bind (rule_Same x0.C_ x1.C_) fun y15 => (some y15)) else (some false)) fun (s7 : Bool) => (some s7))
theorem plur_Same_1_ok {x0 : St46} {x1 : St46} {r : Bool} (h : plur_Same_1 x0 x1 = some r) : SC Tryz.prog 30 [.agg (encSt46 x0), .agg (encSt46 x1)] [] (.bool r) [] := by
 refine kFn (fn := Tryz.f30) (fun F hFn hFH hFD => ?_)
 unfold plur_Same_1 at h
 refine kSR ?_
 refine kC 3 [2,3,4] ?_
 refine kEN ?_
 obtain ⟨s7, hy9, h11⟩ := bindS h
 refine K.cutN (by kernel_rfl) (fun (s7 : Bool) => ([(4, .bool s7)], [])) s7 ?_ ?_
 ·refine kR ?_
  refine kC 6 [2,3,4,10] ?_
  refine kB 10 hy9 (fun h13 => ?_) (fun h14 => ?_)
  ·refine kC 4 [4,10,12,14] ?_
   obtain ⟨y15, hy16, h17⟩ := bindS h13
   refine kA 15 (rule_Same_ok hy16) ?_
   refine kC 2 [4] ?_
   refine kE ?_
   obtain rfl := oi h17
   refine kW (L2 := [(4, .bool y15)]) (H2 := []) hFH hFD [] ?_
   exact kN [4]
  ·refine kC 7 [4] ?_
   refine kE ?_
   obtain rfl := oi h14
   refine kW (L2 := [(4, .bool false)]) (H2 := []) hFH hFD [] ?_
   exact kN [4]
 ·refine kX ?_
  obtain rfl := oi h11
  exact kZ hFn hFH hFD
def api_Ruled__s0 (x0 : List St46) (x1 : List St46) : Option (Bool) :=
 (bif (decide (¬ (x0.length : Int) = (x1.length : Int))) then (some false) else (Option.bind (loopN (fun (s60 : Int) => (bif (decide (s60 < (x0.length : Int))) then (bif inR s60 x0.length then (bif inR s60 x1.length then (Option.bind (plur_Same_1 (nth x0 s60) (nth x1 s60)) fun y100 => (bif (!y100) then (some (.inr (.inr false))) else (some (.inl (IntKind.wrap .i64 (s60 + 1)))))) else none) else none) else (some (.inr (.inl ()))))) big 0) (joinX fun (s55 : Unit) => (some true))))
theorem api_Ruled__s0_ok {x0 : List St46} {x1 : List St46} {r : Bool} (h : api_Ruled__s0 x0 x1 = some r) : SC Tryz.prog 29 [lsv encSt46 2 x0, lsv encSt46 2 x1, .fn (.func 30) [] []] [] (.bool r) [] := by
 refine kFn (fn := Tryz.f29) (fun F hFn hFH hFD => ?_)
 unfold api_Ruled__s0 at h
 refine kSR ?_
 refine kC 1 [0,1,2,6] ?_
 refine kEN ?_
 refine kS ?_
 refine kSR ?_
 refine kC 5 [0,1,2,6,14] ?_
 refine kEN ?_
 refine kBJ 14 h (fun h2 => ?_) (fun h3 => ?_)
 ·refine kT ?_
  refine kSR ?_
  refine kC 1 [0,1,2,6] ?_
  refine kEN ?_
  refine kX ?_
  refine PJ.passRet ?_
  obtain rfl := oi h2
  exact kV [] hFn hFH hFD (v1 := .bool false)
 ·refine kF ?_
  refine kK ?_
  refine PJ.next ?_
  obtain ⟨y56, hy57, h58⟩ := bindS h3
  refine K.cutX (by kernel_rfl) (fun (s55 : Unit) => ([(6, .bool false)], [])) y56 ?_ (fun s55 hs => ?_)
  ·refine kSR ?_
   refine kC 3 [1,2,6,15,16,17] ?_
   refine kEN ?_
   refine kb 0 ?_
   refine kl (fun (s60 : Int) => ([(1, lsv encSt46 2 x1), (2, .fn (.func 30) [] []), (6, .bool false), (15, lsv encSt46 2 x0), (16, .int .i64 (x0.length : Int)), (17, .int .i64 s60)], [])) hy57 [1, 2, 6, 15, 16, 17] (fun s60 x94 hs93 => ?_)
   refine kSR ?_
   refine kC 1 [1,2,6,15,16,17,18] ?_
   refine kEN ?_
   refine kS ?_
   refine kBJ 18 hs93 (fun h96 => ?_) (fun h97 => ?_)
   ·refine kT ?_
    refine kK ?_
    refine PJ.next ?_
    refine kS ?_
    refine kb 1 ?_
    refine kSR ?_
    refine kC 1 [1,2,6,15,16,17,19] ?_
    obtain ⟨hm, h98⟩ := asrt h96
    refine kI 20 encSt46_len hm ?_
    refine kC 4 [1,2,6,7,8,15,16,17] ?_
    refine kEN ?_
    refine kSR ?_
    refine kC 2 [1,2,6,8,15,16,17,22,23] ?_
    obtain ⟨hm, h99⟩ := asrt h98
    refine kI 24 encSt46_len hm ?_
    refine kC 3 [1,2,6,8,9,15,16,17] ?_
    refine kEN ?_
    refine kSR ?_
    refine kC 3 [1,2,6,15,16,17,26,27,28] ?_
    obtain ⟨y100, hy101, h102⟩ := bindS h99
    refine kA 29 (plur_Same_1_ok hy101) ?_
    refine kC 1 [1,2,6,15,16,17,30] ?_
    refine kEN ?_
    refine kBJ 30 h102 (fun h104 => ?_) (fun h105 => ?_)
    ·refine kT ?_
     refine kSR ?_
     refine kC 1 [1,2,6,15,16,17] ?_
     refine kEN ?_
     refine kX ?_
     refine PJ.blockRet ?_
     refine PJ.passRet ?_
     obtain rfl := oi h104
     refine PJ.loopOut (fun e => nomatch e) (fun he108 => ?_)
     have h106 := congrArg some he108
     refine PJ.blockRet ?_
     obtain rfl := oi h106
     have h107 := joinX_inr h58
     refine PJ.cutXr (fun e => nomatch e) ?_
     obtain rfl := oi h107
     exact kV [] hFn hFH hFD (v1 := .bool false)
    ·refine kF ?_
     refine kK ?_
     refine PJ.blockNormal ?_
     refine PJ.next ?_
     refine kR ?_
     refine kC 2 [1,2,6,15,16,17] ?_
     refine kE ?_
     obtain rfl := oi h105
     refine kW (L2 := [(1, lsv encSt46 2 x1), (2, .fn (.func 30) [] []), (6, .bool false), (15, lsv encSt46 2 x0), (16, .int .i64 (x0.length : Int)), (17, .int .i64 (IntKind.wrap .i64 (s60 + 1)))]) (H2 := []) hFH hFD [] ?_
     exact kLN [1, 2, 6, 15, 16, 17]
   ·refine kF ?_
    refine K.exit 0 (by kernel_rfl) ?_
    refine PJ.passExit ?_
    obtain rfl := oi h97
    refine PJ.loopOut (fun e => nomatch e) (fun he110 => ?_)
    have h109 := congrArg some he110
    refine PJ.blockOut ?_
    obtain rfl := oi h109
    exact kXl [6]
  ·subst hs
   have h59 := joinX_inl h58
   refine kSR ?_
   refine kC 1 [6] ?_
   refine kEN ?_
   refine kX ?_
   obtain rfl := oi h59
   exact kV [] hFn hFH hFD (v1 := .bool true)
def plur_Same (x0 : List St46) (x1 : List St46) : Option (Bool) :=
 (Option.bind (api_Ruled__s0 x0 x1) fun y1 => (some y1))
theorem plur_Same_ok {x0 : List St46} {x1 : List St46} {r : Bool} (h : plur_Same x0 x1 = some r) : SC Tryz.prog 12 [lsv encSt46 2 x0, lsv encSt46 2 x1] [] (.bool r) [] := by
 refine kFn (fn := Tryz.f12) (fun F hFn hFH hFD => ?_)
 unfold plur_Same at h
 refine kSR ?_
 refine kC 1 [0,1,4] ?_
 refine kEN ?_
 refine kSR ?_
 refine kC 2 [4,5,6] ?_
 obtain ⟨y1, hy2, h3⟩ := bindS h
 refine kCG (some 7) (args := [lsv encSt46 2 x0, lsv encSt46 2 x1, .fn (.func 30) [] []]) (v := .bool y1) (H2 := []) [] (api_Ruled__s0_ok hy2) ?_
 refine kC 1 [4] ?_
 refine kEN ?_
 refine kX ?_
 obtain rfl := oi h3
 exact kZ hFn hFH hFD
def exergueref12_Same (x0 : List St46) (x1 : List St46) : Option (Bool) :=
 (bif (decide (¬ (x0.length : Int) = (x1.length : Int))) then (some false) else (Option.bind (loopN (fun (s204 : Int) => (bif (decide (s204 < (x0.length : Int))) then (Option.bind (bif inR s204 x0.length then (bif inR s204 x1.length then (Option.bind (exergueref11_Same ((nth x0 s204).C_) ((nth x1 s204).C_)) fun y372 => (Option.bind (bif (!y372) then (some true) else (bif inR s204 x0.length then (bif inR s204 x1.length then (some ((decide (¬ ((nth x0 s204).Cat_) = ((nth x1 s204).Cat_))))) else none) else none)) fun (s380 : Bool) => (bif s380 then (some (.inr (.inr (.inr false)))) else (some (.inl ()))))) else none) else none) (joinX fun (s365 : Unit) => (some (.inl (IntKind.wrap .i64 (s204 + 1)))))) else (some (.inr (.inl ()))))) big 0) (joinX fun (s199 : Unit) => (some true))))
theorem exergueref12_Same_ok {x0 : List St46} {x1 : List St46} {r : Bool} (h : exergueref12_Same x0 x1 = some r) : SC Tryz.prog 11 [lsv encSt46 2 x0, lsv encSt46 2 x1] [] (.bool r) [] := by
 refine kFn (fn := Tryz.f11) (fun F hFn hFH hFD => ?_)
 unfold exergueref12_Same at h
 refine kSR ?_
 refine kC 1 [0,1,4] ?_
 refine kEN ?_
 refine kS ?_
 refine kSR ?_
 refine kC 5 [0,1,4,11] ?_
 refine kEN ?_
 refine kBJ 11 h (fun h2 => ?_) (fun h3 => ?_)
 ·refine kT ?_
  refine kSR ?_
  refine kC 1 [0,1,4] ?_
  refine kEN ?_
  refine kX ?_
  refine PJ.passRet ?_
  obtain rfl := oi h2
  exact kZ hFn hFH hFD
 ·refine kF ?_
  refine kK ?_
  refine PJ.next ?_
  obtain ⟨y200, hy201, h202⟩ := bindS h3
  refine K.cutX (by kernel_rfl) (fun (s199 : Unit) => ([(4, .bool false)], [])) y200 ?_ (fun s199 hs => ?_)
  ·refine kSR ?_
   refine kC 1 [0,1,4,5] ?_
   refine kEN ?_
   refine kb 0 ?_
   refine kl (fun (s204 : Int) => ([(0, lsv encSt46 2 x0), (1, lsv encSt46 2 x1), (4, .bool false), (5, .int .i64 s204)], [])) hy201 [0, 1, 4, 5] (fun s204 x334 hs333 => ?_)
   refine kS ?_
   refine kSR ?_
   refine kC 4 [0,1,4,5,15] ?_
   refine kEN ?_
   refine kBJ 15 hs333 (fun h336 => ?_) (fun h337 => ?_)
   ·refine kT ?_
    refine kK ?_
    refine PJ.next ?_
    obtain ⟨y366, hy367, h368⟩ := bindS h336
    refine K.cutX (by kernel_rfl) (fun (s365 : Unit) => ([(0, lsv encSt46 2 x0), (1, lsv encSt46 2 x1), (4, .bool false), (5, .int .i64 s204)], [])) y366 ?_ (fun s365 hs => ?_)
    ·refine kb 1 ?_
     refine kS ?_
     refine J.keep [0, 1, 4, 5] (L2 := [(0, lsv encSt46 2 x0), (1, lsv encSt46 2 x1), (4, .bool false), (5, .int .i64 s204)]) (by kernel_rfl) ?_
     refine K.draw (by kernel_rfl) (by kernel_rfl) (by kernel_rfl) (H2 := [.res]) (by kernel_rfl) (n := 0) (by kernel_rfl) ?_
     refine kD 2 ?_
     obtain ⟨hm, h370⟩ := asrt hy367
     refine kJ 20 (tr2 := [([], []), ([], []), ([], [])]) encSt46_len hm ?_
     refine kD 4 ?_
     obtain ⟨hm, h371⟩ := asrt h370
     refine kJ 25 (tr2 := [([], []), ([], []), ([], []), ([], []), ([], []), ([], []), ([], []), ([], [])]) encSt46_len hm ?_
     refine kD 2 ?_
     obtain ⟨y372, hy373, h374⟩ := bindS h371
     refine RJ.call0 (d := (some 28)) (f := 28) (args := [lsv (encL encSt75 4) 1 ((nth x0 s204).C_), lsv (encL encSt75 4) 1 ((nth x1 s204).C_)]) (v := .bool y372) (tr2 := [([], []), ([], []), ([], []), ([], []), ([], []), ([], []), ([], []), ([], []), ([], []), ([], []), ([], [0, 1])]) (by kernel_rfl) (by kernel_rfl) (.cons (Le.refl _) (.cons (Le.refl _) .nil)) (exergueref11_Same_ok hy373) (by kernel_rfl) ?_
     refine kD 1 ?_
     refine kEN ?_
     obtain ⟨s380, hy382, h384⟩ := bindS h374
     refine K.cutN (by kernel_rfl) (fun (s380 : Bool) => ([(0, lsv encSt46 2 x0), (1, lsv encSt46 2 x1), (4, .bool false), (5, .int .i64 s204), (43, .bool s380)], [])) s380 ?_ ?_
     ·refine J.keep [0, 1, 4, 5, 6] (L2 := [(0, lsv encSt46 2 x0), (1, lsv encSt46 2 x1), (4, .bool false), (5, .int .i64 s204), (6, .bool y372)]) (by kernel_rfl) ?_
      refine K.draw (by kernel_rfl) (by kernel_rfl) (by kernel_rfl) (H2 := [.res]) (by kernel_rfl) (n := 1) (by kernel_rfl) ?_
      refine kD 3 ?_
      refine kB 31 hy382 (fun h386 => ?_) (fun h387 => ?_)
      ·refine kD 12 ?_
       refine kE ?_
       obtain rfl := oi h386
       refine kW (L2 := [(0, lsv encSt46 2 x0), (1, lsv encSt46 2 x1), (4, .bool false), (5, .int .i64 s204), (43, .bool true)]) (H2 := []) hFH hFD [] ?_
       exact kN [0, 1, 4, 5, 43]
      ·refine kD 2 ?_
       obtain ⟨hm, h388⟩ := asrt h387
       refine kJ 34 (tr2 := [([], []), ([], []), ([], []), ([], []), ([], []), ([], [])]) encSt46_len hm ?_
       refine kD 4 ?_
       obtain ⟨hm, h389⟩ := asrt h388
       refine kJ 39 (tr2 := [([], []), ([], []), ([], []), ([], []), ([], []), ([], []), ([], []), ([], []), ([], []), ([], []), ([], [])]) encSt46_len hm ?_
       refine RJ.segD 4 (tr2 := [([], []), ([], []), ([], []), ([], []), ([], []), ([], []), ([], []), ([], []), ([], []), ([], []), ([], []), ([], []), ([], []), ([], []), ([], [])]) (L2 := [(43, .bool ((decide (¬ ((nth x0 s204).Cat_) = ((nth x1 s204).Cat_))))), (42, .bool ((decide (¬ ((nth x0 s204).Cat_) = ((nth x1 s204).Cat_))))), (41, .int .i64 ((nth x1 s204).Cat_)), (40, .ep [.int .i64 ((nth x1 s204).Cat_), lsv (encL encSt75 4) 1 ((nth x1 s204).C_)]), (39, .ep [.int .i64 ((nth x1 s204).Cat_), lsv (encL encSt75 4) 1 ((nth x1 s204).C_)]), (38, .int .i64 s204), (37, lsv encSt46 2 x1), (36, .int .i64 ((nth x0 s204).Cat_)), (35, .ep [.int .i64 ((nth x0 s204).Cat_), lsv (encL encSt75 4) 1 ((nth x0 s204).C_)]), (34, .ep [.int .i64 ((nth x0 s204).Cat_), lsv (encL encSt75 4) 1 ((nth x0 s204).C_)]), (33, .int .i64 s204), (32, lsv encSt46 2 x0), (31, .bool false), (31, .bool (!y372)), (30, .bool (!y372)), (29, .bool y372), (0, lsv encSt46 2 x0), (1, lsv encSt46 2 x1), (4, .bool false), (5, .int .i64 s204), (6, .bool y372)]) (H2 := [.res]) (by kernel_rfl) ?_
       refine kE ?_
       obtain rfl := oi h389
       refine kW (L2 := [(0, lsv encSt46 2 x0), (1, lsv encSt46 2 x1), (4, .bool false), (5, .int .i64 s204), (43, .bool ((decide (¬ ((nth x0 s204).Cat_) = ((nth x1 s204).Cat_)))))]) (H2 := []) hFH hFD [] ?_
       exact kN [0, 1, 4, 5, 43]
     ·refine kBJ 43 h384 (fun h391 => ?_) (fun h392 => ?_)
      ·refine kT ?_
       refine kSR ?_
       refine kC 1 [0,1,4,5] ?_
       refine kEN ?_
       refine kX ?_
       refine PJ.blockRet ?_
       obtain rfl := oi h391
       have h393 := joinX_inr h368
       refine PJ.cutXr (fun e => nomatch e) ?_
       obtain rfl := oi h393
       refine PJ.loopOut (fun e => nomatch e) (fun he396 => ?_)
       have h394 := congrArg some he396
       refine PJ.blockRet ?_
       obtain rfl := oi h394
       have h395 := joinX_inr h202
       refine PJ.cutXr (fun e => nomatch e) ?_
       obtain rfl := oi h395
       exact kZ hFn hFH hFD
      ·refine kF ?_
       refine kK ?_
       refine PJ.blockNormal ?_
       obtain rfl := oi h392
       exact kXl [0, 1, 4, 5]
    ·subst hs
     have h369 := joinX_inl h368
     refine kR ?_
     refine kC 3 [0,1,4,5] ?_
     refine kE ?_
     obtain rfl := oi h369
     exact kLN [0, 1, 4, 5]
   ·refine kF ?_
    refine K.exit 0 (by kernel_rfl) ?_
    refine PJ.passExit ?_
    obtain rfl := oi h337
    refine PJ.loopOut (fun e => nomatch e) (fun he398 => ?_)
    have h397 := congrArg some he398
    refine PJ.blockOut ?_
    obtain rfl := oi h397
    exact kXl [4]
  ·subst hs
   have h203 := joinX_inl h202
   refine kSR ?_
   refine kC 1 [4] ?_
   refine kEN ?_
   refine kX ?_
   obtain rfl := oi h203
   exact kZ hFn hFH hFD
def exergueref07_Figures (x0 : List Int) : Option (Bool) :=
 (Option.bind (loopN (fun (s45 : Int) => (bif (decide (s45 < (x0.length : Int))) then (bif inR s45 x0.length then (bif (decide ((nth x0 s45) > 9)) then (some (.inr (.inr false))) else (some (.inl (IntKind.wrap .i64 (s45 + 1))))) else none) else (some (.inr (.inl ()))))) big 0) (joinX fun (s40 : Unit) => (some true)))
theorem exergueref07_Figures_ok {x0 : List Int} {r : Bool} (h : exergueref07_Figures x0 = some r) : SC Tryz.prog 34 [lsv (encI .u8) 1 x0] [] (.bool r) [] := by
 refine kFn (fn := Tryz.f34) (fun F hFn hFH hFD => ?_)
 unfold exergueref07_Figures at h
 refine kSR ?_
 refine kC 1 [0,2] ?_
 refine kEN ?_
 obtain ⟨y41, hy42, h43⟩ := bindS h
 refine K.cutX (by kernel_rfl) (fun (s40 : Unit) => ([(2, .bool false)], [])) y41 ?_ (fun s40 hs => ?_)
 ·refine kSR ?_
  refine kC 1 [0,2,3] ?_
  refine kEN ?_
  refine kb 0 ?_
  refine kl (fun (s45 : Int) => ([(0, lsv (encI .u8) 1 x0), (2, .bool false), (3, .int .i64 s45)], [])) hy42 [0, 2, 3] (fun s45 x71 hs70 => ?_)
  refine kS ?_
  refine kSR ?_
  refine kC 4 [0,2,3,7] ?_
  refine kEN ?_
  refine kBJ 7 hs70 (fun h73 => ?_) (fun h74 => ?_)
  ·refine kT ?_
   refine kK ?_
   refine PJ.next ?_
   refine kS ?_
   refine kb 1 ?_
   refine kSR ?_
   refine kC 2 [0,2,3,10,11] ?_
   obtain ⟨hm, h75⟩ := asrt h73
   refine kI 12 (encI_len .u8) hm ?_
   refine kC 2 [0,2,3,14] ?_
   refine kEN ?_
   refine kBJ 14 h75 (fun h77 => ?_) (fun h78 => ?_)
   ·refine kT ?_
    refine kSR ?_
    refine kC 1 [0,2,3] ?_
    refine kEN ?_
    refine kX ?_
    refine PJ.blockRet ?_
    refine PJ.passRet ?_
    obtain rfl := oi h77
    refine PJ.loopOut (fun e => nomatch e) (fun he81 => ?_)
    have h79 := congrArg some he81
    refine PJ.blockRet ?_
    obtain rfl := oi h79
    have h80 := joinX_inr h43
    refine PJ.cutXr (fun e => nomatch e) ?_
    obtain rfl := oi h80
    exact kZ hFn hFH hFD
   ·refine kF ?_
    refine kK ?_
    refine PJ.blockNormal ?_
    refine PJ.next ?_
    refine kR ?_
    refine kC 3 [0,2,3] ?_
    refine kE ?_
    obtain rfl := oi h78
    exact kLN [0, 2, 3]
  ·refine kF ?_
   refine K.exit 0 (by kernel_rfl) ?_
   refine PJ.passExit ?_
   obtain rfl := oi h74
   refine PJ.loopOut (fun e => nomatch e) (fun he83 => ?_)
   have h82 := congrArg some he83
   refine PJ.blockOut ?_
   obtain rfl := oi h82
   exact kXl [2]
 ·subst hs
  have h44 := joinX_inl h43
  refine kSR ?_
  refine kC 1 [2] ?_
  refine kEN ?_
  refine kX ?_
  obtain rfl := oi h44
  exact kZ hFn hFH hFD
def exergueref07_Full (x0 : List Int) : Option (Int) :=
 (Option.bind (loopN (fun (s63 : Int × Int) => (bif (decide (s63.2 < (x0.length : Int))) then (Option.bind (bif inR s63.2 x0.length then (bif (decide (¬ (nth x0 s63.2) = 0)) then (some (IntKind.wrap .i64 (s63.2 + 1))) else (some s63.1)) else none) fun (s109 : Int) => (some (.inl (s109, (IntKind.wrap .i64 (s63.2 + 1)))))) else (some (.inr s63.1)))) big (0, 0)) fun (s58 : Int) => (some s58))
theorem exergueref07_Full_ok {x0 : List Int} {r : Int} (h : exergueref07_Full x0 = some r) : SC Tryz.prog 35 [lsv (encI .u8) 1 x0] [] (.int .i64 r) [] := by
 refine kFn (fn := Tryz.f35) (fun F hFn hFH hFD => ?_)
 unfold exergueref07_Full at h
 refine kSR ?_
 refine kC 1 [0,2] ?_
 refine kEN ?_
 refine kSR ?_
 refine kC 1 [0,2,3] ?_
 refine kEN ?_
 obtain ⟨s58, hy60, h62⟩ := bindS h
 refine K.cutN (by kernel_rfl) (fun (s58 : Int) => ([(2, .int .i64 0), (3, .int .i64 s58)], [])) s58 ?_ ?_
 ·refine kSR ?_
  refine kC 1 [0,2,3,4] ?_
  refine kEN ?_
  refine kb 0 ?_
  refine kl (fun (s63 : Int × Int) => ([(0, lsv (encI .u8) 1 x0), (2, .int .i64 0), (3, .int .i64 s63.1), (4, .int .i64 s63.2)], [])) hy60 [0, 2, 3, 4] (fun s63 x101 hs100 => ?_)
  refine kS ?_
  refine kSR ?_
  refine kC 4 [0,2,3,4,8] ?_
  refine kEN ?_
  refine kBJ 8 hs100 (fun h103 => ?_) (fun h104 => ?_)
  ·refine kT ?_
   refine kK ?_
   refine PJ.next ?_
   obtain ⟨s109, hy111, h113⟩ := bindS h103
   refine K.cutN (by kernel_rfl) (fun (s109 : Int) => ([(0, lsv (encI .u8) 1 x0), (2, .int .i64 0), (3, .int .i64 s109), (4, .int .i64 s63.2)], [])) s109 ?_ ?_
   ·refine kb 1 ?_
    refine kSR ?_
    refine kC 2 [0,2,3,4,11,12] ?_
    obtain ⟨hm, h114⟩ := asrt hy111
    refine kI 13 (encI_len .u8) hm ?_
    refine kC 2 [0,2,3,4,15] ?_
    refine kEN ?_
    refine kBJ 15 h114 (fun h116 => ?_) (fun h117 => ?_)
    ·refine kT ?_
     refine kR ?_
     refine kC 3 [0,2,3,4] ?_
     refine kE ?_
     refine PJ.blockNormal ?_
     obtain rfl := oi h116
     exact kN [0, 2, 3, 4]
    ·refine kF ?_
     refine kK ?_
     refine PJ.blockNormal ?_
     obtain rfl := oi h117
     exact kN [0, 2, 3, 4]
   ·refine kR ?_
    refine kC 3 [0,2,3,4] ?_
    refine kE ?_
    obtain rfl := oi h113
    exact kLN [0, 2, 3, 4]
  ·refine kF ?_
   refine K.exit 0 (by kernel_rfl) ?_
   refine PJ.passExit ?_
   obtain rfl := oi h104
   refine PJ.loopOut (fun e => nomatch e) (fun he119 => ?_)
   have h118 := congrArg some he119
   refine PJ.blockOut ?_
   obtain rfl := oi h118
   exact kN [2, 3]
 ·refine kSR ?_
  refine kC 2 [2] ?_
  refine kEN ?_
  refine kX ?_
  obtain rfl := oi h62
  exact kZ hFn hFH hFD
def exergueref07_Right (x0 : St33) : Option (Bool) :=
 (Option.bind (exergueref07_Figures x0.I_) fun y1 => (Option.bind (exergueref07_Figures x0.F_) fun y4 => (Option.bind (Option.bind (bif (!y1) then (some true) else (bif (!y4) then (some true) else (bif (decide ((x0.I_.length : Int) > 0)) then (bif inR 0 x0.I_.length then (some ((decide ((nth x0.I_ 0) = 0)))) else none) else (some false)))) fun (s51 : Bool) => (bif s51 then (some (.inr false)) else (some (.inl ())))) (joinX fun (s36 : Unit) => (Option.bind (Option.bind (exergueref07_Full x0.F_) fun y84 => (bif (decide (x0.W_ = y84)) then (bif (decide (x0.C_ ≥ 0)) then (some (decide (x0.C_ ≤ 1000))) else (some false)) else (some false))) fun (s79 : Bool) => (some s79))))))
theorem exergueref07_Right_ok {x0 : St33} {r : Bool} (h : exergueref07_Right x0 = some r) : SC Tryz.prog 20 [.agg (encSt33 x0)] [] (.bool r) [] := by
 refine kFn (fn := Tryz.f20) (fun F hFn hFH hFD => ?_)
 unfold exergueref07_Right at h
 refine kSR ?_
 refine kC 2 [1,2] ?_
 refine kEN ?_
 refine kSR ?_
 refine kC 2 [1,2,6] ?_
 obtain ⟨y1, hy2, h3⟩ := bindS h
 refine kA 7 (exergueref07_Figures_ok hy2) ?_
 refine kC 1 [1,2,3] ?_
 refine kEN ?_
 refine kSR ?_
 refine kC 2 [1,2,3,9] ?_
 obtain ⟨y4, hy5, h6⟩ := bindS h3
 refine kA 10 (exergueref07_Figures_ok hy5) ?_
 refine kC 1 [1,2,3,4] ?_
 refine kEN ?_
 obtain ⟨y37, hy38, h39⟩ := bindS h6
 refine K.cutX (by kernel_rfl) (fun (s36 : Unit) => ([(1, .ptr 0 0), (2, .bool false)], [.box (encSt33 x0)])) y37 ?_ (fun s36 hs => ?_)
 ·obtain ⟨s51, hy53, h55⟩ := bindS hy38
  refine K.cutN (by kernel_rfl) (fun (s51 : Bool) => ([(1, .ptr 0 0), (2, .bool false), (29, .bool s51)], [.box (encSt33 x0)])) s51 ?_ ?_
  ·refine kR ?_
   refine kC 3 [1,2,4,13] ?_
   refine kB 13 hy53 (fun h57 => ?_) (fun h58 => ?_)
   ·refine kC 16 [1,2,29] ?_
    refine kE ?_
    obtain rfl := oi h57
    exact kN [1, 2, 29]
   ·refine kC 4 [1,2,17] ?_
    refine kB 17 h58 (fun h60 => ?_) (fun h61 => ?_)
    ·refine kC 12 [1,2,29] ?_
     refine kE ?_
     obtain rfl := oi h60
     exact kN [1, 2, 29]
    ·refine kC 5 [1,2,17,22] ?_
     refine kB 22 h61 (fun h63 => ?_) (fun h64 => ?_)
     ·refine RJ.seg 2 [1, 2, 17, 22, 24] (L2 := [(1, .ptr 0 0), (2, .bool false), (17, .bool false), (22, .bool true), (24, lsv (encI .u8) 1 x0.I_)]) (H2 := [.box (encSt33 x0)]) (by kernel_rfl) ?_
      obtain ⟨hm, h65⟩ := asrt h63
      refine kI 25 (encI_len .u8) hm ?_
      refine kC 4 [1,2,29] ?_
      refine kE ?_
      obtain rfl := oi h65
      exact kN [1, 2, 29]
     ·refine RJ.seg 7 [1, 2, 29] (L2 := [(1, .ptr 0 0), (2, .bool false), (29, .bool false)]) (H2 := [.box (encSt33 x0)]) (by kernel_rfl) ?_
      refine kE ?_
      obtain rfl := oi h64
      exact kN [1, 2, 29]
  ·refine kBJ 29 h55 (fun h67 => ?_) (fun h68 => ?_)
   ·refine kT ?_
    refine kSR ?_
    refine kC 1 [1,2] ?_
    refine kEN ?_
    refine kX ?_
    obtain rfl := oi h67
    have h69 := joinX_inr h39
    refine PJ.cutXr (fun e => nomatch e) ?_
    obtain rfl := oi h69
    exact kZ hFn hFH hFD
   ·refine kF ?_
    refine kK ?_
    obtain rfl := oi h68
    exact kXl [1, 2]
 ·subst hs
  have h40 := joinX_inl h39
  obtain ⟨s79, hy81, h83⟩ := bindS h40
  refine K.cutN (by kernel_rfl) (fun (s79 : Bool) => ([(2, .bool s79)], [])) s79 ?_ ?_
  ·refine J.keep [1, 2] (L2 := [(1, .ptr 0 0), (2, .bool false)]) (by kernel_rfl) ?_
   refine K.draw (by kernel_rfl) (by kernel_rfl) (by kernel_rfl) (H2 := [.box (encSt33 x0), .res]) (by kernel_rfl) (n := 1) (by kernel_rfl) ?_
   refine kD 4 ?_
   obtain ⟨y84, hy85, h86⟩ := bindS hy81
   refine RJ.call0 (d := (some 34)) (f := 35) (args := [lsv (encI .u8) 1 x0.F_]) (v := .int .i64 y84) (tr2 := [([], []), ([0, 1], []), ([], []), ([0, 1], []), ([], [2, 3])]) (by kernel_rfl) (by kernel_rfl) (.cons (Le.refl _) .nil) (exergueref07_Full_ok hy85) (by kernel_rfl) ?_
   refine kD 2 ?_
   refine kB 36 h86 (fun h88 => ?_) (fun h89 => ?_)
   ·refine kD 5 ?_
    refine kB 41 h88 (fun h91 => ?_) (fun h92 => ?_)
    ·refine kD 5 ?_
     refine kE ?_
     obtain rfl := oi h91
     refine kW (L2 := [(2, .bool (decide (x0.C_ ≤ 1000)))]) (H2 := []) hFH hFD [] ?_
     exact kN [2]
    ·refine kD 5 ?_
     refine kE ?_
     obtain rfl := oi h92
     refine kW (L2 := [(2, .bool false)]) (H2 := []) hFH hFD [] ?_
     exact kN [2]
   ·refine kD 10 ?_
    refine kE ?_
    obtain rfl := oi h89
    refine kW (L2 := [(2, .bool false)]) (H2 := []) hFH hFD [] ?_
    exact kN [2]
  ·refine kX ?_
   obtain rfl := oi h83
   exact kZ hFn hFH hFD
def exergueref07_number (x0 : Int) : Option (List Int) :=
 (Option.bind (loopN (fun (s27 : Int × (List Int)) => (bif (decide (s27.1 > 0)) then (bif room ((([(IntKind.wrap .u8 (Int.tmod s27.1 10))] : List Int)).length + s27.2.length) then (some (.inl ((IntKind.wrap .i64 (Int.tdiv s27.1 10)), ((([(IntKind.wrap .u8 (Int.tmod s27.1 10))] : List Int)) ++ s27.2)))) else none) else (some (.inr s27.2)))) big (x0, ([] : List Int))) fun (s22 : (List Int)) => (some s22))
theorem exergueref07_number_ok {x0 : Int} {r : List Int} (h : exergueref07_number x0 = some r) : SC Tryz.prog 77 [.int .i64 x0] [] (lsv (encI .u8) 1 r) [] := by
 refine kFn (fn := Tryz.f77) (fun F hFn hFH hFD => ?_)
 unfold exergueref07_number at h
 refine kSR ?_
 refine kC 1 [0,2] ?_
 refine kEN ?_
 refine kSR ?_
 refine kC 1 [0,2,3] ?_
 refine kEN ?_
 obtain ⟨s22, hy24, h26⟩ := bindS h
 refine K.cutN (by kernel_rfl) (fun (s22 : (List Int)) => ([(2, .nl), (3, .vc 0)], [vecL (encI .u8) 1 5 s22])) s22 ?_ ?_
 ·refine kb 0 ?_
  refine J.wk (Wk.viv 3 1 5 (by kernel_rfl)) ?_
  refine kl (fun (s27 : Int × (List Int)) => ([(0, .int .i64 s27.1), (2, .nl), (3, .vc 0)], [vecL (encI .u8) 1 5 s27.2])) hy24 [0, 2, 3] (fun s27 x41 hs40 => ?_)
  refine kS ?_
  refine kSR ?_
  refine kC 2 [0,2,3,5] ?_
  refine kEN ?_
  refine kBJ 5 hs40 (fun h43 => ?_) (fun h44 => ?_)
  ·refine kT ?_
   refine kK ?_
   refine PJ.next ?_
   refine kb 1 ?_
   refine kSR ?_
   refine kC 5 [0,2,3,9,10] ?_
   obtain ⟨hm, h45⟩ := asrt h43
   refine RJ.rel (d := (some 11)) (ef := ⟨.vc 2, [1, 0], [(1, .gone), (2, .vec ((([(IntKind.wrap .u8 (Int.tmod s27.1 10))] : List Int)).length + s27.2.length) 1 5 ((([(IntKind.wrap .u8 (Int.tmod s27.1 10))] : List Int)).flatMap (encI .u8) ++ s27.2.flatMap (encI .u8)))]⟩) (ef' := ⟨.vc 2, [1, 0], [(1, .gone), (2, vecL (encI .u8) 1 5 ((([(IntKind.wrap .u8 (Int.tmod s27.1 10))] : List Int)) ++ s27.2))]⟩) (c := roomB ((([(IntKind.wrap .u8 (Int.tmod s27.1 10))] : List Int)).length + s27.2.length)) (tr2 := []) (H2 := [vecL (encI .u8) 1 5 s27.2, .gone, vecL (encI .u8) 1 5 (((([(IntKind.wrap .u8 (Int.tmod s27.1 10))] : List Int)) ++ s27.2))]) (by kernel_rfl) (roomB_of_room hm) (fun hc => N.app) (by kernel_rfl) ?_
   refine kC 1 [0,2,3] ?_
   refine kEN ?_
   refine kR ?_
   refine kC 3 [0,2,3] ?_
   refine kE ?_
   refine PJ.blockNormal ?_
   obtain rfl := oi h45
   refine kW (L2 := [(0, .int .i64 (IntKind.wrap .i64 (Int.tdiv s27.1 10))), (2, .nl), (3, .vc 0)]) (H2 := [vecL (encI .u8) 1 5 (((([(IntKind.wrap .u8 (Int.tmod s27.1 10))] : List Int)) ++ s27.2))]) hFH hFD [2] ?_
   exact kLN [0, 2, 3]
  ·refine kF ?_
   refine K.exit 0 (by kernel_rfl) ?_
   refine PJ.passExit ?_
   obtain rfl := oi h44
   refine PJ.loopOut (fun e => nomatch e) (fun he47 => ?_)
   have h46 := congrArg some he47
   refine PJ.blockOut ?_
   obtain rfl := oi h46
   exact kN [2, 3]
 ·refine kSR ?_
  refine kC 2 [2] ?_
  refine kEN ?_
  refine kX ?_
  obtain rfl := oi h26
  refine PJ.wk (Wk.freeze 0 (n := s22.length) (k := 1) (e := 5) (cs := s22.flatMap (encI .u8)) (by kernel_rfl)) ?_
  exact kZ hFn hFH hFD
def exergueref07_Bare (x0 : List Int) : Option (List Int) :=
 (Option.bind (loopN (fun (s138 : Int) => (Option.bind (Option.bind (bif (decide (s138 < (x0.length : Int))) then (bif inR s138 x0.length then (some ((decide ((nth x0 s138) = 0)))) else none) else (some false)) fun (s255 : Bool) => (bif s255 then (some (.inl ())) else (some (.inr (.inr s138))))) (joinX fun (s246 : Unit) => (some (.inl (IntKind.wrap .i64 (s138 + 1))))))) big 0) fun (s133 : Int) => (bif inS s133 (x0.length : Int) x0.length then (some (cut x0 s133 (x0.length : Int))) else none))
theorem exergueref07_Bare_ok {x0 : List Int} {r : List Int} (h : exergueref07_Bare x0 = some r) : SC Tryz.prog 78 [lsv (encI .u8) 1 x0] [] (lsv (encI .u8) 1 r) [] := by
 refine kFn (fn := Tryz.f78) (fun F hFn hFH hFD => ?_)
 unfold exergueref07_Bare at h
 refine kSR ?_
 refine kC 1 [0,2] ?_
 refine kEN ?_
 refine kSR ?_
 refine kC 1 [0,2,3] ?_
 refine kEN ?_
 obtain ⟨s133, hy135, h137⟩ := bindS h
 refine K.cutN (by kernel_rfl) (fun (s133 : Int) => ([(0, lsv (encI .u8) 1 x0), (2, .nl), (3, .int .i64 s133)], [])) s133 ?_ ?_
 ·refine kb 0 ?_
  refine kl (fun (s138 : Int) => ([(0, lsv (encI .u8) 1 x0), (2, .nl), (3, .int .i64 s138)], [])) hy135 [0, 2, 3] (fun s138 x226 hs225 => ?_)
  obtain ⟨y247, hy248, h249⟩ := bindS hs225
  refine K.cutX (by kernel_rfl) (fun (s246 : Unit) => ([(0, lsv (encI .u8) 1 x0), (2, .nl), (3, .int .i64 s138)], [])) y247 ?_ (fun s246 hs => ?_)
  ·obtain ⟨s255, hy257, h259⟩ := bindS hy248
   refine K.cutN (by kernel_rfl) (fun (s255 : Bool) => ([(0, lsv (encI .u8) 1 x0), (2, .nl), (3, .int .i64 s138), (14, .bool s255)], [])) s255 ?_ ?_
   ·refine kR ?_
    refine kC 5 [0,2,3,8] ?_
    refine kB 8 hy257 (fun h261 => ?_) (fun h262 => ?_)
    ·refine kC 2 [0,2,3,8,9,10] ?_
     obtain ⟨hm, h263⟩ := asrt h261
     refine kI 11 (encI_len .u8) hm ?_
     refine kC 3 [0,2,3,14] ?_
     refine kE ?_
     obtain rfl := oi h263
     exact kN [0, 2, 3, 14]
    ·refine kC 6 [0,2,3,14] ?_
     refine kE ?_
     obtain rfl := oi h262
     exact kN [0, 2, 3, 14]
   ·refine kBJ 14 h259 (fun h265 => ?_) (fun h266 => ?_)
    ·refine kT ?_
     refine kK ?_
     obtain rfl := oi h265
     exact kXl [0, 2, 3]
    ·refine kF ?_
     refine K.exit 0 (by kernel_rfl) ?_
     obtain rfl := oi h266
     have h267 := joinX_inr h249
     refine PJ.cutXr (fun e => nomatch e) ?_
     obtain rfl := oi h267
     refine PJ.loopOut (fun e => nomatch e) (fun he269 => ?_)
     have h268 := congrArg some he269
     refine PJ.blockOut ?_
     obtain rfl := oi h268
     exact kN [0, 2, 3]
  ·subst hs
   have h250 := joinX_inl h249
   refine kb 1 ?_
   refine kR ?_
   refine kC 3 [0,2,3] ?_
   refine kE ?_
   refine PJ.blockNormal ?_
   obtain rfl := oi h250
   exact kLN [0, 2, 3]
 ·refine kSR ?_
  refine kC 2 [2,17,18] ?_
  obtain ⟨hm, h270⟩ := asrt h137
  refine RJ.rel (d := (some 19)) (ef := ⟨.lst (((x0.length : Int) : Int).toNat - (s133 : Int).toNat) 1 (((x0.flatMap (encI .u8)).take (((x0.length : Int) : Int).toNat * 1)).drop ((s133 : Int).toNat * 1)), [], []⟩) (ef' := ⟨.lst (cut x0 s133 (x0.length : Int)).length 1 ((cut x0 s133 (x0.length : Int)).flatMap (encI .u8)), [], []⟩) (c := inS s133 (x0.length : Int) x0.length) (tr2 := []) (H2 := []) (by kernel_rfl) hm (fun hc => N.slice (encI_len .u8) hc) (by kernel_rfl) ?_
  refine kC 1 [2] ?_
  refine kEN ?_
  refine kX ?_
  obtain rfl := oi h270
  exact kZ hFn hFH hFD
def exergueref07_Operand (x0 : St33) (x1 : Int) : Option ((List Int) × Bool) :=
 (Option.bind (bif (decide (x1 = 110)) then (bif (decide (x0.W_ > 0)) then (some (.inr (([] : List Int), false))) else (some (.inr (x0.I_, true)))) else (bif (decide (x1 = 105)) then (some (.inr (x0.I_, true))) else (bif (decide (x1 = 118)) then (Option.bind (exergueref07_number (x0.F_.length : Int)) fun y80 => (some (.inr (y80, true)))) else (bif (decide (x1 = 119)) then (Option.bind (exergueref07_number x0.W_) fun y87 => (some (.inr (y87, true)))) else (bif (decide (x1 = 102)) then (Option.bind (exergueref07_Bare x0.F_) fun y94 => (some (.inr (y94, true)))) else (bif (decide (x1 = 116)) then (bif inS 0 x0.W_ x0.F_.length then (Option.bind (exergueref07_Bare (cut x0.F_ 0 x0.W_)) fun y102 => (some (.inr (y102, true)))) else none) else (Option.bind (bif (decide (x1 = 99)) then (some true) else (some (decide (x1 = 101)))) fun (s109 : Bool) => (bif s109 then (Option.bind (exergueref07_number x0.C_) fun y120 => (some (.inr (y120, true)))) else (some (.inl ())))))))))) (joinX fun (s60 : Unit) => (some (([] : List Int), false))))
theorem exergueref07_Operand_ok {x0 : St33} {x1 : Int} {r : (List Int) × Bool} (h : exergueref07_Operand x0 x1 = some r) : SC Tryz.prog 62 [.agg (encSt33 x0), .int .u8 x1] [] (.tup [lsv (encI .u8) 1 r.1, .bool r.2]) [] := by
 refine kFn (fn := Tryz.f62) (fun F hFn hFH hFD => ?_)
 unfold exergueref07_Operand at h
 refine kSR ?_
 refine kC 3 [1,2,4,5] ?_
 refine kEN ?_
 obtain ⟨y61, hy62, h63⟩ := bindS h
 refine K.cutX (by kernel_rfl) (fun (s60 : Unit) => ([(4, .nl), (5, .bool false)], [])) y61 ?_ (fun s60 hs => ?_)
 ·refine kSR ?_
  refine kC 1 [2,4,5,6] ?_
  refine kEN ?_
  refine kb 0 ?_
  refine kSR ?_
  refine kC 2 [2,4,5,6,7] ?_
  refine kEN ?_
  refine kBJ 7 hy62 (fun h66 => ?_) (fun h67 => ?_)
  ·refine kT ?_
   refine kS ?_
   refine kSR ?_
   refine kC 3 [2,4,5,11] ?_
   refine kEN ?_
   refine kBJ 11 h66 (fun h69 => ?_) (fun h70 => ?_)
   ·refine kT ?_
    refine kSR ?_
    refine kC 2 [2,4,5] ?_
    refine kEN ?_
    refine kX ?_
    refine PJ.passRet ?_
    refine PJ.blockRet ?_
    obtain rfl := oi h69
    have h71 := joinX_inr h63
    refine PJ.cutXr (fun e => nomatch e) ?_
    obtain rfl := oi h71
    refine PJ.res (v1 := .tup [.nl, .bool false]) (Le.tup (.cons (Le.nl _) (.cons (Le.refl _) .nil))) ?_
    exact kZ hFn hFH hFD
   ·refine kF ?_
    refine kK ?_
    refine PJ.next ?_
    refine kSR ?_
    refine kC 4 [4,5] ?_
    refine kEN ?_
    refine kX ?_
    refine PJ.blockRet ?_
    obtain rfl := oi h70
    have h72 := joinX_inr h63
    refine PJ.cutXr (fun e => nomatch e) ?_
    obtain rfl := oi h72
    exact kZ hFn hFH hFD
  ·refine kF ?_
   refine kSR ?_
   refine kC 2 [2,4,5,6,14] ?_
   refine kEN ?_
   refine kBJ 14 h67 (fun h74 => ?_) (fun h75 => ?_)
   ·refine kT ?_
    refine kSR ?_
    refine kC 4 [4,5] ?_
    refine kEN ?_
    refine kX ?_
    refine PJ.blockRet ?_
    obtain rfl := oi h74
    have h76 := joinX_inr h63
    refine PJ.cutXr (fun e => nomatch e) ?_
    obtain rfl := oi h76
    exact kZ hFn hFH hFD
   ·refine kF ?_
    refine kSR ?_
    refine kC 2 [2,4,5,6,18] ?_
    refine kEN ?_
    refine kBJ 18 h75 (fun h78 => ?_) (fun h79 => ?_)
    ·refine kT ?_
     refine kSR ?_
     refine kC 3 [4,5,22] ?_
     obtain ⟨y80, hy81, h82⟩ := bindS h78
     refine kA 23 (exergueref07_number_ok hy81) ?_
     refine kC 2 [4,5] ?_
     refine kEN ?_
     refine kX ?_
     refine PJ.blockRet ?_
     obtain rfl := oi h82
     have h83 := joinX_inr h63
     refine PJ.cutXr (fun e => nomatch e) ?_
     obtain rfl := oi h83
     exact kZ hFn hFH hFD
    ·refine kF ?_
     refine kSR ?_
     refine kC 2 [2,4,5,6,24] ?_
     refine kEN ?_
     refine kBJ 24 h79 (fun h85 => ?_) (fun h86 => ?_)
     ·refine kT ?_
      refine kSR ?_
      refine kC 2 [4,5,27] ?_
      obtain ⟨y87, hy88, h89⟩ := bindS h85
      refine kA 28 (exergueref07_number_ok hy88) ?_
      refine kC 2 [4,5] ?_
      refine kEN ?_
      refine kX ?_
      refine PJ.blockRet ?_
      obtain rfl := oi h89
      have h90 := joinX_inr h63
      refine PJ.cutXr (fun e => nomatch e) ?_
      obtain rfl := oi h90
      exact kZ hFn hFH hFD
     ·refine kF ?_
      refine kSR ?_
      refine kC 2 [2,4,5,6,29] ?_
      refine kEN ?_
      refine kBJ 29 h86 (fun h92 => ?_) (fun h93 => ?_)
      ·refine kT ?_
       refine kSR ?_
       refine kC 2 [4,5,32] ?_
       obtain ⟨y94, hy95, h96⟩ := bindS h92
       refine kA 33 (exergueref07_Bare_ok hy95) ?_
       refine RJ.seg 2 [4, 5] (L2 := [(4, lsv (encI .u8) 1 y94), (5, .bool true)]) (H2 := [.box (encSt33 x0)]) (by kernel_rfl) ?_
       refine kEN ?_
       refine kX ?_
       refine PJ.blockRet ?_
       obtain rfl := oi h96
       have h97 := joinX_inr h63
       refine PJ.cutXr (fun e => nomatch e) ?_
       obtain rfl := oi h97
       exact kZ hFn hFH hFD
      ·refine kF ?_
       refine kSR ?_
       refine kC 2 [2,4,5,6,34] ?_
       refine kEN ?_
       refine kBJ 34 h93 (fun h99 => ?_) (fun h100 => ?_)
       ·refine kT ?_
        refine kSR ?_
        refine RJ.seg 4 [4, 5, 37, 39] (L2 := [(4, .nl), (5, .bool false), (37, lsv (encI .u8) 1 x0.F_), (39, .int .i64 x0.W_)]) (H2 := [.box (encSt33 x0)]) (by kernel_rfl) ?_
        obtain ⟨hm, h101⟩ := asrt h99
        refine RJ.rel (d := (some 40)) (ef := ⟨.lst ((x0.W_ : Int).toNat - (0 : Int).toNat) 1 (((x0.F_.flatMap (encI .u8)).take ((x0.W_ : Int).toNat * 1)).drop ((0 : Int).toNat * 1)), [], []⟩) (ef' := ⟨.lst (cut x0.F_ 0 x0.W_).length 1 ((cut x0.F_ 0 x0.W_).flatMap (encI .u8)), [], []⟩) (c := inS 0 x0.W_ x0.F_.length) (tr2 := []) (H2 := [.box (encSt33 x0)]) (by kernel_rfl) hm (fun hc => N.slice (encI_len .u8) hc) (by kernel_rfl) ?_
        obtain ⟨y102, hy103, h104⟩ := bindS h101
        refine kA 41 (exergueref07_Bare_ok hy103) ?_
        refine kC 2 [4,5] ?_
        refine kEN ?_
        refine kX ?_
        refine PJ.blockRet ?_
        obtain rfl := oi h104
        have h105 := joinX_inr h63
        refine PJ.cutXr (fun e => nomatch e) ?_
        obtain rfl := oi h105
        exact kZ hFn hFH hFD
       ·refine kF ?_
        obtain ⟨s109, hy111, h113⟩ := bindS h100
        refine K.cutN (by kernel_rfl) (fun (s109 : Bool) => ([(2, .ptr 0 0), (4, .nl), (5, .bool false), (42, .bool s109)], [.box (encSt33 x0)])) s109 ?_ ?_
        ·refine kSR ?_
         refine RJ.seg 2 [2, 4, 5, 6, 42] (L2 := [(2, .ptr 0 0), (4, .nl), (5, .bool false), (6, .int .u8 x1), (42, .bool (decide (x1 = 99)))]) (H2 := [.box (encSt33 x0)]) (by kernel_rfl) ?_
         refine kEN ?_
         refine kBJ 42 hy111 (fun h115 => ?_) (fun h116 => ?_)
         ·refine kT ?_
          refine kK ?_
          obtain rfl := oi h115
          exact kN [2, 4, 5, 42]
         ·refine kF ?_
          refine kR ?_
          refine kC 2 [2,4,5,42] ?_
          refine kE ?_
          obtain rfl := oi h116
          exact kN [2, 4, 5, 42]
        ·refine kBJ 42 h113 (fun h118 => ?_) (fun h119 => ?_)
         ·refine kT ?_
          refine kSR ?_
          refine kC 2 [4,5,46] ?_
          obtain ⟨y120, hy121, h122⟩ := bindS h118
          refine kA 47 (exergueref07_number_ok hy121) ?_
          refine kC 2 [4,5] ?_
          refine kEN ?_
          refine kX ?_
          refine PJ.blockRet ?_
          obtain rfl := oi h122
          have h123 := joinX_inr h63
          refine PJ.cutXr (fun e => nomatch e) ?_
          obtain rfl := oi h123
          exact kZ hFn hFH hFD
         ·refine kF ?_
          refine kK ?_
          refine PJ.blockNormal ?_
          obtain rfl := oi h119
          refine kW (L2 := [(4, .nl), (5, .bool false)]) (H2 := []) hFH hFD [] ?_
          exact kXl [4, 5]
 ·subst hs
  have h64 := joinX_inl h63
  refine kSR ?_
  refine kC 2 [4,5] ?_
  refine kEN ?_
  refine kX ?_
  obtain rfl := oi h64
  refine PJ.res (v1 := .tup [.nl, .bool false]) (Le.tup (.cons (Le.nl _) (.cons (Le.refl _) .nil))) ?_
  exact kZ hFn hFH hFD
def exergueref07_Mod (x0 : List Int) (x1 : Int) : Option (Int) :=
 (bif nz x1 then (Option.bind (loopN (fun (s34 : Int × Int × Int) => (bif (decide (s34.2.2 ≥ 0)) then (bif inR s34.2.2 x0.length then (bif nz x1 then (bif nz x1 then (some (.inl ((Int.tmod ((IntKind.wrap .i64 (s34.1 + ((IntKind.wrap .i64 ((IntKind.wrap .i64 (nth x0 s34.2.2)) * s34.2.1)))))) x1), (Int.tmod (IntKind.wrap .i64 (s34.2.1 * 10)) x1), (IntKind.wrap .i64 (s34.2.2 - 1))))) else none) else none) else none) else (some (.inr s34.1)))) big (0, (Int.tmod 1 x1), (IntKind.wrap .i64 ((x0.length : Int) - 1)))) fun (s29 : Int) => (some s29)) else none)
theorem exergueref07_Mod_ok {x0 : List Int} {x1 : Int} {r : Int} (h : exergueref07_Mod x0 x1 = some r) : SC Tryz.prog 64 [lsv (encI .u8) 1 x0, .int .i64 x1] [] (.int .i64 r) [] := by
 refine kFn (fn := Tryz.f64) (fun F hFn hFH hFD => ?_)
 unfold exergueref07_Mod at h
 refine kSR ?_
 refine kC 1 [0,1,4] ?_
 refine kEN ?_
 refine kSR ?_
 refine kC 1 [0,1,4,5] ?_
 refine kEN ?_
 refine kSR ?_
 refine kC 1 [0,1,4,5,8] ?_
 obtain ⟨hm, h1⟩ := asrt h
 refine kQ 9 (.int .i64 (Int.tmod 1 x1)) [] (tr2 := []) hm ?_
 refine kC 1 [0,1,4,5,6] ?_
 refine kEN ?_
 obtain ⟨s29, hy31, h33⟩ := bindS h1
 refine K.cutN (by kernel_rfl) (fun (s29 : Int) => ([(4, .int .i64 0), (5, .int .i64 s29)], [])) s29 ?_ ?_
 ·refine kSR ?_
  refine kC 4 [0,1,4,5,6,7] ?_
  refine kEN ?_
  refine kb 0 ?_
  refine kl (fun (s34 : Int × Int × Int) => ([(0, lsv (encI .u8) 1 x0), (1, .int .i64 x1), (4, .int .i64 0), (5, .int .i64 s34.1), (6, .int .i64 s34.2.1), (7, .int .i64 s34.2.2)], [])) hy31 [0, 1, 4, 5, 6, 7] (fun s34 x52 hs51 => ?_)
  refine kS ?_
  refine kSR ?_
  refine kC 2 [0,1,4,5,6,7,14] ?_
  refine kEN ?_
  refine kBJ 14 hs51 (fun h54 => ?_) (fun h55 => ?_)
  ·refine kT ?_
   refine kK ?_
   refine PJ.next ?_
   refine kS ?_
   refine kb 1 ?_
   refine kSR ?_
   refine kC 3 [0,1,4,5,6,7,17,18,19] ?_
   obtain ⟨hm, h56⟩ := asrt h54
   refine kI 20 (encI_len .u8) hm ?_
   refine kC 6 [0,1,4,5,6,7,25,26] ?_
   obtain ⟨hm, h57⟩ := asrt h56
   refine kQ 27 (.int .i64 (Int.tmod ((IntKind.wrap .i64 (s34.1 + ((IntKind.wrap .i64 ((IntKind.wrap .i64 (nth x0 s34.2.2)) * s34.2.1)))))) x1)) [] (tr2 := []) hm ?_
   refine kC 1 [0,1,4,5,6,7] ?_
   refine kEN ?_
   refine kR ?_
   refine kC 3 [0,1,4,5,6,7,29,30] ?_
   obtain ⟨hm, h58⟩ := asrt h57
   refine kQ 31 (.int .i64 (Int.tmod (IntKind.wrap .i64 (s34.2.1 * 10)) x1)) [] (tr2 := []) hm ?_
   refine kC 1 [0,1,4,5,6,7] ?_
   refine kE ?_
   refine PJ.blockNormal ?_
   refine PJ.next ?_
   refine kR ?_
   refine kC 3 [0,1,4,5,6,7] ?_
   refine kE ?_
   obtain rfl := oi h58
   exact kLN [0, 1, 4, 5, 6, 7]
  ·refine kF ?_
   refine K.exit 0 (by kernel_rfl) ?_
   refine PJ.passExit ?_
   obtain rfl := oi h55
   refine PJ.loopOut (fun e => nomatch e) (fun he60 => ?_)
   have h59 := congrArg some he60
   refine PJ.blockOut ?_
   obtain rfl := oi h59
   exact kN [4, 5]
 ·refine kSR ?_
  refine kC 2 [4] ?_
  refine kEN ?_
  refine kX ?_
  obtain rfl := oi h33
  exact kZ hFn hFH hFD
def exergueref11_figures (x0 : Int) : Option (List Int) :=
 (Option.bind (exergueref05_Number big x0) fun y1 => (Option.bind (loopN (fun (s33 : Int × (List Int)) => (bif (decide (s33.1 < (y1.length : Int))) then (bif inR s33.1 y1.length then (bif room (s33.2.length + (([(IntKind.wrap .u8 (((((y1.getD (s33.1 : Int).toNat 0).toNat : Nat) : Int)) - 48))] : List Int)).length) then (some (.inl ((IntKind.wrap .i64 (s33.1 + 1)), (s33.2 ++ (([(IntKind.wrap .u8 (((((y1.getD (s33.1 : Int).toNat 0).toNat : Nat) : Int)) - 48))] : List Int)))))) else none) else none) else (some (.inr s33.2)))) big (0, ([] : List Int))) fun (s28 : (List Int)) => (some s28)))
theorem exergueref11_figures_ok {x0 : Int} {r : List Int} (h : exergueref11_figures x0 = some r) : SC Tryz.prog 63 [.int .i64 x0] [] (lsv (encI .u8) 1 r) [] := by
 refine kFn (fn := Tryz.f63) (fun F hFn hFH hFD => ?_)
 unfold exergueref11_figures at h
 refine kSR ?_
 refine kC 1 [0,2] ?_
 refine kEN ?_
 refine kSR ?_
 refine kC 1 [0,2,3] ?_
 refine kEN ?_
 refine kSR ?_
 refine kC 1 [2,3,6] ?_
 obtain ⟨y1, hy2, h3⟩ := bindS h
 refine kA 7 (exergueref05_Number_ok big hy2) ?_
 refine kC 1 [2,3,4] ?_
 refine kEN ?_
 obtain ⟨s28, hy30, h32⟩ := bindS h3
 refine K.cutN (by kernel_rfl) (fun (s28 : (List Int)) => ([(2, .nl), (3, .vc 0)], [vecL (encI .u8) 1 5 s28])) s28 ?_ ?_
 ·refine kSR ?_
  refine kC 1 [2,3,4,5] ?_
  refine kEN ?_
  refine kb 0 ?_
  refine J.wk (Wk.viv 3 1 5 (by kernel_rfl)) ?_
  refine kl (fun (s33 : Int × (List Int)) => ([(2, .nl), (3, .vc 0), (4, .str y1), (5, .int .i64 s33.1)], [vecL (encI .u8) 1 5 s33.2])) hy30 [2, 3, 4, 5] (fun s33 x49 hs48 => ?_)
  refine kS ?_
  refine kSR ?_
  refine kC 4 [2,3,4,5,11] ?_
  refine kEN ?_
  refine kBJ 11 hs48 (fun h51 => ?_) (fun h52 => ?_)
  ·refine kT ?_
   refine kK ?_
   refine PJ.next ?_
   refine kS ?_
   refine kb 1 ?_
   refine kR ?_
   refine kC 3 [2,3,4,5,14,15,16] ?_
   obtain ⟨hm, h53⟩ := asrt h51
   refine kG 17 hm ?_
   refine kC 2 [2,3,4,5,14,19] ?_
   obtain ⟨hm, h54⟩ := asrt h53
   refine RJ.rel (d := (some 20)) (ef := ⟨.vc 2, [0, 1], [(0, .gone), (2, .vec (s33.2.length + (([(IntKind.wrap .u8 (((((y1.getD (s33.1 : Int).toNat 0).toNat : Nat) : Int)) - 48))] : List Int)).length) 1 5 (s33.2.flatMap (encI .u8) ++ (([(IntKind.wrap .u8 (((((y1.getD (s33.1 : Int).toNat 0).toNat : Nat) : Int)) - 48))] : List Int)).flatMap (encI .u8)))]⟩) (ef' := ⟨.vc 2, [0, 1], [(0, .gone), (2, vecL (encI .u8) 1 5 (s33.2 ++ (([(IntKind.wrap .u8 (((((y1.getD (s33.1 : Int).toNat 0).toNat : Nat) : Int)) - 48))] : List Int))))]⟩) (c := roomB (s33.2.length + (([(IntKind.wrap .u8 (((((y1.getD (s33.1 : Int).toNat 0).toNat : Nat) : Int)) - 48))] : List Int)).length)) (tr2 := []) (H2 := [.gone, vecL (encI .u8) 1 5 (([(IntKind.wrap .u8 (((((y1.getD (s33.1 : Int).toNat 0).toNat : Nat) : Int)) - 48))] : List Int)), vecL (encI .u8) 1 5 ((s33.2 ++ (([(IntKind.wrap .u8 (((((y1.getD (s33.1 : Int).toNat 0).toNat : Nat) : Int)) - 48))] : List Int))))]) (by kernel_rfl) (roomB_of_room hm) (fun hc => N.app) (by kernel_rfl) ?_
   refine kC 1 [2,3,4,5] ?_
   refine kE ?_
   refine PJ.blockNormal ?_
   refine PJ.next ?_
   refine kR ?_
   refine kC 3 [2,3,4,5] ?_
   refine kE ?_
   obtain rfl := oi h54
   refine kW (L2 := [(2, .nl), (3, .vc 0), (4, .str y1), (5, .int .i64 (IntKind.wrap .i64 (s33.1 + 1)))]) (H2 := [vecL (encI .u8) 1 5 ((s33.2 ++ (([(IntKind.wrap .u8 (((((y1.getD (s33.1 : Int).toNat 0).toNat : Nat) : Int)) - 48))] : List Int))))]) hFH hFD [2] ?_
   exact kLN [2, 3, 4, 5]
  ·refine kF ?_
   refine K.exit 0 (by kernel_rfl) ?_
   refine PJ.passExit ?_
   obtain rfl := oi h52
   refine PJ.loopOut (fun e => nomatch e) (fun he56 => ?_)
   have h55 := congrArg some he56
   refine PJ.blockOut ?_
   obtain rfl := oi h55
   exact kN [2, 3]
 ·refine kSR ?_
  refine kC 2 [2] ?_
  refine kEN ?_
  refine kX ?_
  obtain rfl := oi h32
  refine PJ.wk (Wk.freeze 0 (n := s28.length) (k := 1) (e := 5) (cs := s28.flatMap (encI .u8)) (by kernel_rfl)) ?_
  exact kZ hFn hFH hFD
def exergueref07_In (x0 : List Int) (x1 : Int) (x2 : Int) : Option (Bool) :=
 (Option.bind (exergueref07_Bare x0) fun y1 => (bif (decide ((y1.length : Int) > 19)) then (some false) else (Option.bind (loopN (fun (s33 : Int × Int) => (bif (decide (s33.2 < (y1.length : Int))) then (bif inR s33.2 y1.length then (some (.inl ((IntKind.wrap .u64 ((IntKind.wrap .u64 (s33.1 * 10)) + (IntKind.wrap .u64 (nth y1 s33.2)))), (IntKind.wrap .i64 (s33.2 + 1))))) else none) else (some (.inr s33.1)))) big (0, 0)) fun (s28 : Int) => (Option.bind (bif (decide (x2 ≥ 0)) then (bif (decide (s28 ≤ (IntKind.wrap .u64 x2))) then (bif (decide (x1 < 0)) then (some true) else (some ((decide (s28 ≥ (IntKind.wrap .u64 x1)))))) else (some false)) else (some false)) fun (s63 : Bool) => (some s63)))))
theorem exergueref07_In_ok {x0 : List Int} {x1 : Int} {x2 : Int} {r : Bool} (h : exergueref07_In x0 x1 x2 = some r) : SC Tryz.prog 65 [lsv (encI .u8) 1 x0, .int .i64 x1, .int .i64 x2] [] (.bool r) [] := by
 refine kFn (fn := Tryz.f65) (fun F hFn hFH hFD => ?_)
 unfold exergueref07_In at h
 refine kSR ?_
 refine kC 1 [0,1,2,6] ?_
 refine kEN ?_
 refine kSR ?_
 refine kC 1 [1,2,6,10] ?_
 obtain ⟨y1, hy2, h3⟩ := bindS h
 refine kA 11 (exergueref07_Bare_ok hy2) ?_
 refine kC 1 [1,2,6,7] ?_
 refine kEN ?_
 refine kS ?_
 refine kSR ?_
 refine kC 3 [1,2,6,7,14] ?_
 refine kEN ?_
 refine kBJ 14 h3 (fun h5 => ?_) (fun h6 => ?_)
 ·refine kT ?_
  refine kSR ?_
  refine kC 1 [1,2,6,7] ?_
  refine kEN ?_
  refine kX ?_
  refine PJ.passRet ?_
  obtain rfl := oi h5
  exact kZ hFn hFH hFD
 ·refine kF ?_
  refine kK ?_
  refine PJ.next ?_
  refine kSR ?_
  refine kC 1 [1,2,6,7,8] ?_
  refine kEN ?_
  obtain ⟨s28, hy30, h32⟩ := bindS h6
  refine K.cutN (by kernel_rfl) (fun (s28 : Int) => ([(1, .int .i64 x1), (2, .int .i64 x2), (6, .bool false), (8, .int .u64 s28)], [])) s28 ?_ ?_
  ·refine kSR ?_
   refine kC 1 [1,2,6,7,8,9] ?_
   refine kEN ?_
   refine kb 0 ?_
   refine kl (fun (s33 : Int × Int) => ([(1, .int .i64 x1), (2, .int .i64 x2), (6, .bool false), (7, lsv (encI .u8) 1 y1), (8, .int .u64 s33.1), (9, .int .i64 s33.2)], [])) hy30 [1, 2, 6, 7, 8, 9] (fun s33 x47 hs46 => ?_)
   refine kS ?_
   refine kSR ?_
   refine kC 4 [1,2,6,7,8,9,18] ?_
   refine kEN ?_
   refine kBJ 18 hs46 (fun h49 => ?_) (fun h50 => ?_)
   ·refine kT ?_
    refine kK ?_
    refine PJ.next ?_
    refine kS ?_
    refine kb 1 ?_
    refine kR ?_
    refine kC 4 [1,2,6,7,8,9,22,23,24] ?_
    obtain ⟨hm, h51⟩ := asrt h49
    refine kI 25 (encI_len .u8) hm ?_
    refine kC 4 [1,2,6,7,8,9] ?_
    refine kE ?_
    refine PJ.blockNormal ?_
    refine PJ.next ?_
    refine kR ?_
    refine kC 3 [1,2,6,7,8,9] ?_
    refine kE ?_
    obtain rfl := oi h51
    exact kLN [1, 2, 6, 7, 8, 9]
   ·refine kF ?_
    refine K.exit 0 (by kernel_rfl) ?_
    refine PJ.passExit ?_
    obtain rfl := oi h50
    refine PJ.loopOut (fun e => nomatch e) (fun he53 => ?_)
    have h52 := congrArg some he53
    refine PJ.blockOut ?_
    obtain rfl := oi h52
    exact kN [1, 2, 6, 8]
  ·obtain ⟨s63, hy65, h67⟩ := bindS h32
   refine K.cutN (by kernel_rfl) (fun (s63 : Bool) => ([(6, .bool s63)], [])) s63 ?_ ?_
   ·refine kR ?_
    refine kC 3 [1,2,6,8,31] ?_
    refine kB 31 hy65 (fun h69 => ?_) (fun h70 => ?_)
    ·refine kC 6 [1,6,8,37] ?_
     refine kB 37 h69 (fun h72 => ?_) (fun h73 => ?_)
     ·refine kC 3 [1,6,8,37,40] ?_
      refine kB 40 h72 (fun h75 => ?_) (fun h76 => ?_)
      ·refine kC 7 [6] ?_
       refine kE ?_
       obtain rfl := oi h75
       exact kN [6]
      ·refine kC 7 [6] ?_
       refine kE ?_
       obtain rfl := oi h76
       exact kN [6]
     ·refine kC 10 [6] ?_
      refine kE ?_
      obtain rfl := oi h73
      exact kN [6]
    ·refine kC 16 [6] ?_
     refine kE ?_
     obtain rfl := oi h70
     exact kN [6]
   ·refine kX ?_
    obtain rfl := oi h67
    exact kZ hFn hFH hFD
def exergueref11_holds (x0 : St75) (x1 : St33) : Option (Bool) :=
 (Option.bind (exergueref07_Operand x1 x0.Op_) fun y1 => (bif (!y1.2) then (some x0.Not_) else (Option.bind (bif (decide (x0.Mod_ > 0)) then (Option.bind (exergueref07_Mod y1.1 x0.Mod_) fun y24 => (Option.bind (exergueref11_figures y24) fun y27 => (some y27))) else (some y1.1)) fun (s16 : (List Int)) => (Option.bind (loopN (fun (s86 : Int) => (bif (decide (s86 < (x0.R_.length : Int))) then (bif inR s86 x0.R_.length then (bif inR s86 x0.R_.length then (Option.bind (exergueref07_In s16 ((nth x0.R_ s86).a0_) ((nth x0.R_ s86).a1_)) fun y126 => (bif y126 then (some (.inr (.inr (!x0.Not_)))) else (some (.inl (IntKind.wrap .i64 (s86 + 1)))))) else none) else none) else (some (.inr (.inl ()))))) big 0) (joinX fun (s81 : Unit) => (some x0.Not_))))))
theorem exergueref11_holds_ok {x0 : St75} {x1 : St33} {r : Bool} (h : exergueref11_holds x0 x1 = some r) : SC Tryz.prog 51 [.agg (encSt75 x0), .agg (encSt33 x1)] [] (.bool r) [] := by
 refine kFn (fn := Tryz.f51) (fun F hFn hFH hFD => ?_)
 unfold exergueref11_holds at h
 refine kSR ?_
 refine kC 3 [2,3,4] ?_
 refine kEN ?_
 refine kSR ?_
 refine kC 3 [2,4,10,12] ?_
 obtain ⟨y1, hy2, h3⟩ := bindS h
 refine kA 13 (exergueref07_Operand_ok hy2) ?_
 refine kC 5 [2,4,5,6] ?_
 refine kEN ?_
 refine kS ?_
 refine kSR ?_
 refine kC 2 [2,4,5,17] ?_
 refine kEN ?_
 refine kBJ 17 h3 (fun h5 => ?_) (fun h6 => ?_)
 ·refine kT ?_
  refine kSR ?_
  refine kC 3 [2,4,5] ?_
  refine kEN ?_
  refine kX ?_
  refine PJ.passRet ?_
  obtain rfl := oi h5
  exact kZ hFn hFH hFD
 ·refine kF ?_
  refine kK ?_
  refine PJ.next ?_
  obtain ⟨s16, hy18, h20⟩ := bindS h6
  refine K.cutN (by kernel_rfl) (fun (s16 : (List Int)) => ([(2, .ptr 0 0), (4, .bool false), (5, lsv (encI .u8) 1 s16)], [.box (encSt75 x0)])) s16 ?_ ?_
  ·refine kSR ?_
   refine kC 3 [2,4,5,22] ?_
   refine kEN ?_
   refine kBJ 22 hy18 (fun h22 => ?_) (fun h23 => ?_)
   ·refine kT ?_
    refine kR ?_
    refine kC 3 [2,4,5,23,25] ?_
    obtain ⟨y24, hy25, h26⟩ := bindS h22
    refine kA 26 (exergueref07_Mod_ok hy25) ?_
    obtain ⟨y27, hy28, h29⟩ := bindS h26
    refine kA 27 (exergueref11_figures_ok hy28) ?_
    refine kC 1 [2,4,5] ?_
    refine kE ?_
    obtain rfl := oi h29
    refine kW (L2 := [(2, .ptr 0 0), (4, .bool false), (5, lsv (encI .u8) 1 y27)]) (H2 := [.box (encSt75 x0)]) hFH hFD [0] ?_
    exact kN [2, 4, 5]
   ·refine kF ?_
    refine kK ?_
    obtain rfl := oi h23
    refine kW (L2 := [(2, .ptr 0 0), (4, .bool false), (5, lsv (encI .u8) 1 y1.1)]) (H2 := [.box (encSt75 x0)]) hFH hFD [0] ?_
    exact kN [2, 4, 5]
  ·obtain ⟨y82, hy83, h84⟩ := bindS h20
   refine K.cutX (by kernel_rfl) (fun (s81 : Unit) => ([(2, .ptr 0 0), (4, .bool false)], [.box (encSt75 x0)])) y82 ?_ (fun s81 hs => ?_)
   ·refine kSR ?_
    refine kC 1 [2,4,5,7] ?_
    refine kEN ?_
    refine kb 0 ?_
    refine kl (fun (s86 : Int) => ([(2, .ptr 0 0), (4, .bool false), (5, lsv (encI .u8) 1 s16), (7, .int .i64 s86)], [.box (encSt75 x0)])) hy83 [2, 4, 5, 7] (fun s86 x120 hs119 => ?_)
    refine kS ?_
    refine kSR ?_
    refine kC 5 [2,4,5,7,32] ?_
    refine kEN ?_
    refine kBJ 32 hs119 (fun h122 => ?_) (fun h123 => ?_)
    ·refine kT ?_
     refine kK ?_
     refine PJ.next ?_
     refine kS ?_
     refine kb 1 ?_
     refine kS ?_
     refine J.keep [2, 4, 5, 7] (L2 := [(2, .ptr 0 0), (4, .bool false), (5, lsv (encI .u8) 1 s16), (7, .int .i64 s86)]) (by kernel_rfl) ?_
     refine K.draw (by kernel_rfl) (by kernel_rfl) (by kernel_rfl) (H2 := [.box (encSt75 x0), .res]) (by kernel_rfl) (n := 1) (by kernel_rfl) ?_
     refine kD 4 ?_
     obtain ⟨hm, h124⟩ := asrt h122
     refine kJ 39 (tr2 := [([], []), ([], []), ([0, 1], []), ([], []), ([], [])]) encSt80_len hm ?_
     refine kD 5 ?_
     obtain ⟨hm, h125⟩ := asrt h124
     refine kJ 45 (tr2 := [([], []), ([], []), ([0, 1], []), ([], []), ([], []), ([], []), ([], []), ([], []), ([0, 1], []), ([], []), ([], [])]) encSt80_len hm ?_
     refine kD 2 ?_
     obtain ⟨y126, hy127, h128⟩ := bindS h125
     refine RJ.call0 (d := (some 48)) (f := 65) (args := [lsv (encI .u8) 1 s16, .int .i64 ((nth x0.R_ s86).a0_), .int .i64 ((nth x0.R_ s86).a1_)]) (v := .bool y126) (tr2 := [([], []), ([], []), ([0, 1], []), ([], []), ([], []), ([], []), ([], []), ([], []), ([0, 1], []), ([], []), ([], []), ([], []), ([], []), ([], [2, 3])]) (by kernel_rfl) (by kernel_rfl) (.cons (Le.refl _) (.cons (Le.refl _) (.cons (Le.refl _) .nil))) (exergueref07_In_ok hy127) (by kernel_rfl) ?_
     refine kD 1 ?_
     refine kEN ?_
     refine kSR ?_
     refine kC 1 [2,4,5,7,49] ?_
     refine kEN ?_
     refine kBJ 49 h128 (fun h130 => ?_) (fun h131 => ?_)
     ·refine kT ?_
      refine kSR ?_
      refine kC 4 [2,4,5,7] ?_
      refine kEN ?_
      refine kX ?_
      refine PJ.blockRet ?_
      refine PJ.passRet ?_
      obtain rfl := oi h130
      refine PJ.loopOut (fun e => nomatch e) (fun he134 => ?_)
      have h132 := congrArg some he134
      refine PJ.blockRet ?_
      obtain rfl := oi h132
      have h133 := joinX_inr h84
      refine PJ.cutXr (fun e => nomatch e) ?_
      obtain rfl := oi h133
      exact kZ hFn hFH hFD
     ·refine kF ?_
      refine kK ?_
      refine PJ.blockNormal ?_
      refine PJ.next ?_
      refine kR ?_
      refine kC 3 [2,4,5,7] ?_
      refine kE ?_
      obtain rfl := oi h131
      refine kW (L2 := [(2, .ptr 0 0), (4, .bool false), (5, lsv (encI .u8) 1 s16), (7, .int .i64 (IntKind.wrap .i64 (s86 + 1)))]) (H2 := [.box (encSt75 x0)]) hFH hFD [0] ?_
      exact kLN [2, 4, 5, 7]
    ·refine kF ?_
     refine K.exit 0 (by kernel_rfl) ?_
     refine PJ.passExit ?_
     obtain rfl := oi h123
     refine PJ.loopOut (fun e => nomatch e) (fun he136 => ?_)
     have h135 := congrArg some he136
     refine PJ.blockOut ?_
     obtain rfl := oi h135
     exact kXl [2, 4]
   ·subst hs
    have h85 := joinX_inl h84
    refine kSR ?_
    refine kC 3 [4] ?_
    refine kEN ?_
    refine kX ?_
    obtain rfl := oi h85
    exact kZ hFn hFH hFD
def exergueref11_Holds (x0 : List (List St75)) (x1 : St33) : Option (Bool) :=
 (Option.bind (loopN (fun (s1047 : Int) => (bif (decide (s1047 < (x0.length : Int))) then (Option.bind (Option.bind (loopN (fun (s2001 : Bool × Int) => (bif inR s1047 x0.length then (bif (decide (s2001.2 < ((nth x0 s1047).length : Int))) then (Option.bind (bif inR s1047 x0.length then (bif inR s2001.2 (nth x0 s1047).length then (Option.bind (exergueref11_holds (nth (nth x0 s1047) s2001.2) x1) fun y2071 => (bif s2001.1 then (some y2071) else (some false))) else none) else none) fun (s2064 : Bool) => (some (.inl (s2064, (IntKind.wrap .i64 (s2001.2 + 1)))))) else (some (.inr s2001.1))) else none)) big (true, 0)) fun (s1996 : Bool) => (bif s1996 then (some (.inr (.inr (.inr true)))) else (some (.inl ())))) (joinX fun (s1913 : Unit) => (some (.inl (IntKind.wrap .i64 (s1047 + 1)))))) else (some (.inr (.inl ()))))) big 0) (joinX fun (s1042 : Unit) => (some false)))
theorem exergueref11_Holds_ok {x0 : List (List St75)} {x1 : St33} {r : Bool} (h : exergueref11_Holds x0 x1 = some r) : SC Tryz.prog 37 [lsv (encL encSt75 4) 1 x0, .agg (encSt33 x1)] [] (.bool r) [] := by
 refine kFn (fn := Tryz.f37) (fun F hFn hFH hFD => ?_)
 unfold exergueref11_Holds at h
 refine kSR ?_
 refine kC 2 [0,3,4] ?_
 refine kEN ?_
 obtain ⟨y1043, hy1044, h1045⟩ := bindS h
 refine K.cutX (by kernel_rfl) (fun (s1042 : Unit) => ([(4, .bool false)], [])) y1043 ?_ (fun s1042 hs => ?_)
 ·refine kSR ?_
  refine kC 1 [0,3,4,5] ?_
  refine kEN ?_
  refine kb 0 ?_
  refine kl (fun (s1047 : Int) => ([(0, lsv (encL encSt75 4) 1 x0), (3, .ptr 0 0), (4, .bool false), (5, .int .i64 s1047)], [.box (encSt33 x1)])) hy1044 [0, 3, 4, 5] (fun s1047 x1741 hs1740 => ?_)
  refine kS ?_
  refine kSR ?_
  refine kC 4 [0,3,4,5,12] ?_
  refine kEN ?_
  refine kBJ 12 hs1740 (fun h1743 => ?_) (fun h1744 => ?_)
  ·refine kT ?_
   refine kK ?_
   refine PJ.next ?_
   obtain ⟨y1914, hy1915, h1916⟩ := bindS h1743
   refine K.cutX (by kernel_rfl) (fun (s1913 : Unit) => ([(0, lsv (encL encSt75 4) 1 x0), (3, .ptr 0 0), (4, .bool false), (5, .int .i64 s1047)], [.box (encSt33 x1)])) y1914 ?_ (fun s1913 hs => ?_)
   ·refine kb 1 ?_
    refine kSR ?_
    refine kC 1 [0,3,4,5,6] ?_
    refine kEN ?_
    obtain ⟨s1996, hy1998, h2000⟩ := bindS hy1915
    refine K.cutN (by kernel_rfl) (fun (s1996 : Bool) => ([(0, lsv (encL encSt75 4) 1 x0), (3, .ptr 0 0), (4, .bool false), (5, .int .i64 s1047), (6, .bool s1996)], [.box (encSt33 x1)])) s1996 ?_ ?_
    ·refine kSR ?_
     refine kC 1 [0,3,4,5,6,7] ?_
     refine kEN ?_
     refine kb 2 ?_
     refine kl (fun (s2001 : Bool × Int) => ([(0, lsv (encL encSt75 4) 1 x0), (3, .ptr 0 0), (4, .bool false), (5, .int .i64 s1047), (6, .bool s2001.1), (7, .int .i64 s2001.2)], [.box (encSt33 x1)])) hy1998 [0, 3, 4, 5, 6, 7] (fun s2001 x2051 hs2050 => ?_)
     refine kS ?_
     refine kSR ?_
     refine kC 3 [0,3,4,5,6,7,15,16,17] ?_
     obtain ⟨hm, h2052⟩ := asrt hs2050
     refine kI 18 (encL_len encSt75 4) hm ?_
     refine kC 3 [0,3,4,5,6,7,21] ?_
     refine kEN ?_
     refine kBJ 21 h2052 (fun h2054 => ?_) (fun h2055 => ?_)
     ·refine kT ?_
      refine kK ?_
      refine PJ.next ?_
      obtain ⟨s2064, hy2066, h2068⟩ := bindS h2054
      refine K.cutN (by kernel_rfl) (fun (s2064 : Bool) => ([(0, lsv (encL encSt75 4) 1 x0), (3, .ptr 0 0), (4, .bool false), (5, .int .i64 s1047), (6, .bool s2064), (7, .int .i64 s2001.2)], [.box (encSt33 x1)])) s2064 ?_ ?_
      ·refine kb 3 ?_
       refine kS ?_
       refine J.keep [0, 3, 4, 5, 6, 7] (L2 := [(0, lsv (encL encSt75 4) 1 x0), (3, .ptr 0 0), (4, .bool false), (5, .int .i64 s1047), (6, .bool s2001.1), (7, .int .i64 s2001.2)]) (by kernel_rfl) ?_
       refine K.draw (by kernel_rfl) (by kernel_rfl) (by kernel_rfl) (H2 := [.box (encSt33 x1), .res]) (by kernel_rfl) (n := 1) (by kernel_rfl) ?_
       refine kD 2 ?_
       obtain ⟨hm, h2069⟩ := asrt hy2066
       refine kJ 26 (tr2 := [([], []), ([], []), ([], [])]) (encL_len encSt75 4) hm ?_
       refine kD 2 ?_
       obtain ⟨hm, h2070⟩ := asrt h2069
       refine kJ 29 (tr2 := [([], []), ([], []), ([], []), ([], []), ([], []), ([], [])]) encSt75_len hm ?_
       refine kD 2 ?_
       obtain ⟨y2071, hy2072, h2073⟩ := bindS h2070
       refine RJ.call0 (d := (some 32)) (f := 51) (args := [.agg [.int .u8 ((nth (nth x0 s1047) s2001.2).Op_), .int .i64 ((nth (nth x0 s1047) s2001.2).Mod_), .bool ((nth (nth x0 s1047) s2001.2).Not_), lsv encSt80 2 ((nth (nth x0 s1047) s2001.2).R_)], .agg (encSt33 x1)]) (v := .bool y2071) (tr2 := [([], []), ([], []), ([], []), ([], []), ([], []), ([], []), ([], []), ([0, 1], []), ([], [2, 3])]) (by kernel_rfl) (by kernel_rfl) (.cons (Le.refl _) (.cons (Le.refl _) .nil)) (exergueref11_holds_ok hy2072) (by kernel_rfl) ?_
       refine kD 1 ?_
       refine kEN ?_
       refine kR ?_
       refine kC 2 [0,3,4,5,6,7,8,34] ?_
       refine kB 34 h2073 (fun h2075 => ?_) (fun h2076 => ?_)
       ·refine kC 3 [0,3,4,5,6,7] ?_
        refine kE ?_
        refine PJ.blockNormal ?_
        obtain rfl := oi h2075
        refine kW (L2 := [(0, lsv (encL encSt75 4) 1 x0), (3, .ptr 0 0), (4, .bool false), (5, .int .i64 s1047), (6, .bool y2071), (7, .int .i64 s2001.2)]) (H2 := [.box (encSt33 x1)]) hFH hFD [0] ?_
        exact kN [0, 3, 4, 5, 6, 7]
       ·refine kC 3 [0,3,4,5,6,7] ?_
        refine kE ?_
        refine PJ.blockNormal ?_
        obtain rfl := oi h2076
        refine kW (L2 := [(0, lsv (encL encSt75 4) 1 x0), (3, .ptr 0 0), (4, .bool false), (5, .int .i64 s1047), (6, .bool false), (7, .int .i64 s2001.2)]) (H2 := [.box (encSt33 x1)]) hFH hFD [0] ?_
        exact kN [0, 3, 4, 5, 6, 7]
      ·refine kR ?_
       refine kC 3 [0,3,4,5,6,7] ?_
       refine kE ?_
       obtain rfl := oi h2068
       exact kLN [0, 3, 4, 5, 6, 7]
     ·refine kF ?_
      refine K.exit 2 (by kernel_rfl) ?_
      refine PJ.passExit ?_
      obtain rfl := oi h2055
      refine PJ.loopOut (fun e => nomatch e) (fun he2078 => ?_)
      have h2077 := congrArg some he2078
      refine PJ.blockOut ?_
      obtain rfl := oi h2077
      exact kN [0, 3, 4, 5, 6]
    ·refine kSR ?_
     refine kC 1 [0,3,4,5,37] ?_
     refine kEN ?_
     refine kBJ 37 h2000 (fun h2080 => ?_) (fun h2081 => ?_)
     ·refine kT ?_
      refine kSR ?_
      refine kC 1 [0,3,4,5] ?_
      refine kEN ?_
      refine kX ?_
      refine PJ.blockRet ?_
      obtain rfl := oi h2080
      have h2082 := joinX_inr h1916
      refine PJ.cutXr (fun e => nomatch e) ?_
      obtain rfl := oi h2082
      refine PJ.loopOut (fun e => nomatch e) (fun he2085 => ?_)
      have h2083 := congrArg some he2085
      refine PJ.blockRet ?_
      obtain rfl := oi h2083
      have h2084 := joinX_inr h1045
      refine PJ.cutXr (fun e => nomatch e) ?_
      obtain rfl := oi h2084
      exact kZ hFn hFH hFD
     ·refine kF ?_
      refine kK ?_
      refine PJ.blockNormal ?_
      obtain rfl := oi h2081
      exact kXl [0, 3, 4, 5]
   ·subst hs
    have h1917 := joinX_inl h1916
    refine kR ?_
    refine kC 3 [0,3,4,5] ?_
    refine kE ?_
    obtain rfl := oi h1917
    exact kLN [0, 3, 4, 5]
  ·refine kF ?_
   refine K.exit 0 (by kernel_rfl) ?_
   refine PJ.passExit ?_
   obtain rfl := oi h1744
   refine PJ.loopOut (fun e => nomatch e) (fun he2087 => ?_)
   have h2086 := congrArg some he2087
   refine PJ.blockOut ?_
   obtain rfl := oi h2086
   refine kW (L2 := [(4, .bool false)]) (H2 := []) hFH hFD [] ?_
   exact kXl [4]
 ·subst hs
  have h1046 := joinX_inl h1045
  refine kSR ?_
  refine kC 1 [4] ?_
  refine kEN ?_
  refine kX ?_
  obtain rfl := oi h1046
  exact kZ hFn hFH hFD
def exergueref12_Of (x0 : List St46) (x1 : St33) : Option (Int) :=
 (Option.bind (loopN (fun (s57 : Int) => (bif (decide (s57 < (x0.length : Int))) then (bif inR s57 x0.length then (Option.bind (exergueref11_Holds ((nth x0 s57).C_) x1) fun y96 => (bif y96 then (bif inR s57 x0.length then (some (.inr (.inr (nth x0 s57).Cat_))) else none) else (some (.inl (IntKind.wrap .i64 (s57 + 1)))))) else none) else (some (.inr (.inl ()))))) big 0) (joinX fun (s52 : Unit) => (some 0)))
theorem exergueref12_Of_ok {x0 : List St46} {x1 : St33} {r : Int} (h : exergueref12_Of x0 x1 = some r) : SC Tryz.prog 22 [lsv encSt46 2 x0, .agg (encSt33 x1)] [] (.int .i64 r) [] := by
 refine kFn (fn := Tryz.f22) (fun F hFn hFH hFD => ?_)
 unfold exergueref12_Of at h
 refine kSR ?_
 refine kC 2 [0,3,4] ?_
 refine kEN ?_
 obtain ⟨y53, hy54, h55⟩ := bindS h
 refine K.cutX (by kernel_rfl) (fun (s52 : Unit) => ([(4, .int .i64 0)], [])) y53 ?_ (fun s52 hs => ?_)
 ·refine kSR ?_
  refine kC 1 [0,3,4,5] ?_
  refine kEN ?_
  refine kb 0 ?_
  refine kl (fun (s57 : Int) => ([(0, lsv encSt46 2 x0), (3, .ptr 0 0), (4, .int .i64 0), (5, .int .i64 s57)], [.box (encSt33 x1)])) hy54 [0, 3, 4, 5] (fun s57 x91 hs90 => ?_)
  refine kS ?_
  refine kSR ?_
  refine kC 4 [0,3,4,5,10] ?_
  refine kEN ?_
  refine kBJ 10 hs90 (fun h93 => ?_) (fun h94 => ?_)
  ·refine kT ?_
   refine kK ?_
   refine PJ.next ?_
   refine kS ?_
   refine kb 1 ?_
   refine kS ?_
   refine J.keep [0, 3, 4, 5] (L2 := [(0, lsv encSt46 2 x0), (3, .ptr 0 0), (4, .int .i64 0), (5, .int .i64 s57)]) (by kernel_rfl) ?_
   refine K.draw (by kernel_rfl) (by kernel_rfl) (by kernel_rfl) (H2 := [.box (encSt33 x1), .res]) (by kernel_rfl) (n := 1) (by kernel_rfl) ?_
   refine kD 2 ?_
   obtain ⟨hm, h95⟩ := asrt h93
   refine kJ 15 (tr2 := [([], []), ([], []), ([], [])]) encSt46_len hm ?_
   refine kD 3 ?_
   obtain ⟨y96, hy97, h98⟩ := bindS h95
   refine RJ.call0 (d := (some 19)) (f := 37) (args := [lsv (encL encSt75 4) 1 ((nth x0 s57).C_), .agg (encSt33 x1)]) (v := .bool y96) (tr2 := [([], []), ([], []), ([], []), ([], []), ([], []), ([0, 1], []), ([], [2, 3])]) (by kernel_rfl) (by kernel_rfl) (.cons (Le.refl _) (.cons (Le.refl _) .nil)) (exergueref11_Holds_ok hy97) (by kernel_rfl) ?_
   refine kD 1 ?_
   refine kEN ?_
   refine kSR ?_
   refine kC 1 [0,3,4,5,20] ?_
   refine kEN ?_
   refine kBJ 20 h98 (fun h100 => ?_) (fun h101 => ?_)
   ·refine kT ?_
    refine kSR ?_
    refine kC 2 [0,3,4,5,21,22] ?_
    obtain ⟨hm, h102⟩ := asrt h100
    refine kI 23 encSt46_len hm ?_
    refine kC 3 [0,3,4,5] ?_
    refine kEN ?_
    refine kX ?_
    refine PJ.blockRet ?_
    refine PJ.passRet ?_
    obtain rfl := oi h102
    refine PJ.loopOut (fun e => nomatch e) (fun he105 => ?_)
    have h103 := congrArg some he105
    refine PJ.blockRet ?_
    obtain rfl := oi h103
    have h104 := joinX_inr h55
    refine PJ.cutXr (fun e => nomatch e) ?_
    obtain rfl := oi h104
    exact kZ hFn hFH hFD
   ·refine kF ?_
    refine kK ?_
    refine PJ.blockNormal ?_
    refine PJ.next ?_
    refine kR ?_
    refine kC 3 [0,3,4,5] ?_
    refine kE ?_
    obtain rfl := oi h101
    refine kW (L2 := [(0, lsv encSt46 2 x0), (3, .ptr 0 0), (4, .int .i64 0), (5, .int .i64 (IntKind.wrap .i64 (s57 + 1)))]) (H2 := [.box (encSt33 x1)]) hFH hFD [0] ?_
    exact kLN [0, 3, 4, 5]
  ·refine kF ?_
   refine K.exit 0 (by kernel_rfl) ?_
   refine PJ.passExit ?_
   obtain rfl := oi h94
   refine PJ.loopOut (fun e => nomatch e) (fun he107 => ?_)
   have h106 := congrArg some he107
   refine PJ.blockOut ?_
   obtain rfl := oi h106
   refine kW (L2 := [(4, .int .i64 0)]) (H2 := []) hFH hFD [] ?_
   exact kXl [4]
 ·subst hs
  have h56 := joinX_inl h55
  refine kSR ?_
  refine kC 1 [4] ?_
  refine kEN ?_
  refine kX ?_
  obtain rfl := oi h56
  exact kZ hFn hFH hFD
def exerguelaw12_PlurTells (x0 : St35) : Option (Bool) :=
 (Option.bind exerguelaw12_shown fun y1 => (Option.bind (Option.bind (Option.bind (exergueref12_Short x0.L_) fun y68 => (bif (!y68) then (some true) else (Option.bind (exergueref12_Short x0.M_) fun y74 => (bif (!y74) then (some true) else (bif (decide (((IntKind.wrap .i64 ((x0.O_.I_.length : Int) + (x0.O_.F_.length : Int)))) > 1000)) then (some true) else (some ((decide ((x0.Name_.length : Int) > 50))))))))) fun (s63 : Bool) => (bif s63 then (some (.inr y1)) else (some (.inl ())))) (joinX fun (s43 : Unit) => (Option.bind (plur_Cat x0.Name_) fun y87 => (Option.bind (exergueref12_Cat x0.Name_) fun y90 => (Option.bind (exergueref12_Right x0.L_) fun y93 => (Option.bind (Option.bind (Option.bind (plur_Right x0.L_) fun y196 => (bif (y196 != y93) then (some true) else (Option.bind (plur_Same x0.L_ x0.M_) fun y202 => (Option.bind (exergueref12_Same x0.L_ x0.M_) fun y205 => (bif (y202 != y205) then (some true) else (Option.bind (plur_Name x0.Cat_) fun y211 => (Option.bind (exergueref12_Name x0.Cat_) fun y214 => (bif (y211 != y214) then (some true) else (bif (decide (¬ y87.1 = y90.1)) then (some true) else (some (y87.2 != y90.2))))))))))) fun (s191 : Bool) => (bif s191 then (some (.inr false)) else (some (.inl ())))) (joinX fun (s159 : Unit) => (Option.bind (bif y1 then (bif (!y93) then (some true) else (Option.bind (exergueref07_Right x0.O_) fun y256 => (bif (!y256) then (some true) else (Option.bind (plur_Of x0.L_ x0.O_) fun y262 => (Option.bind (exergueref12_Of x0.L_ x0.O_) fun y265 => (some (decide (y262 = y265)))))))) else (some false)) fun (s245 : Bool) => (some s245))))))))))
theorem exerguelaw12_PlurTells_ok {x0 : St35} {r : Bool} (h : exerguelaw12_PlurTells x0 = some r) : SC Tryz.prog 4 [.agg (encSt35 x0)] [] (.bool r) [] := by
 refine kFn (fn := Tryz.f4) (fun F hFn hFH hFD => ?_)
 unfold exerguelaw12_PlurTells at h
 refine kSR ?_
 refine kC 2 [1,2] ?_
 refine kEN ?_
 refine kSR ?_
 refine kC 3 [1,2,3] ?_
 refine kEN ?_
 refine kSR ?_
 refine kC 3 [1,2,3,4] ?_
 refine kEN ?_
 refine kSR ?_
 refine kC 4 [1,2,3,4,5] ?_
 refine kEN ?_
 refine kSR ?_
 refine kC 3 [1,2,3,4,5,6] ?_
 refine kEN ?_
 refine kSR ?_
 refine kC 3 [2,3,4,5,6,7] ?_
 refine kEN ?_
 refine kSR ?_
 obtain ⟨y1, hy2, h3⟩ := bindS h
 refine kA 24 (exerguelaw12_shown_ok hy2) ?_
 refine kC 1 [2,3,4,5,6,7,8] ?_
 refine kEN ?_
 obtain ⟨y44, hy45, h46⟩ := bindS h3
 refine K.cutX (by kernel_rfl) (fun (s43 : Unit) => ([(2, .bool false), (3, lsv encSt46 2 x0.L_), (4, lsv encSt46 2 x0.M_), (5, .ptr 0 0), (6, .int .i64 x0.Cat_), (7, .str x0.Name_), (8, .bool y1)], [.box (encSt33 x0.O_)])) y44 ?_ (fun s43 hs => ?_)
 ·obtain ⟨s63, hy65, h67⟩ := bindS hy45
  refine K.cutN (by kernel_rfl) (fun (s63 : Bool) => ([(2, .bool false), (3, lsv encSt46 2 x0.L_), (4, lsv encSt46 2 x0.M_), (5, .ptr 0 0), (6, .int .i64 x0.Cat_), (7, .str x0.Name_), (8, .bool y1), (47, .bool s63)], [.box (encSt33 x0.O_)])) s63 ?_ ?_
  ·refine kR ?_
   refine kC 1 [2,3,4,5,6,7,8,25] ?_
   obtain ⟨y68, hy69, h70⟩ := bindS hy65
   refine kA 26 (exergueref12_Short_ok hy69) ?_
   refine RJ.seg 2 [2, 3, 4, 5, 6, 7, 8, 28] (L2 := [(2, .bool false), (3, lsv encSt46 2 x0.L_), (4, lsv encSt46 2 x0.M_), (5, .ptr 1 0), (6, .int .i64 x0.Cat_), (7, .str x0.Name_), (8, .bool y1), (28, .bool (!y68))]) (H2 := [.box (encSt35 x0), .box (encSt33 x0.O_)]) (by kernel_rfl) ?_
   refine kB 28 h70 (fun h72 => ?_) (fun h73 => ?_)
   ·refine kC 19 [2,3,4,5,6,7,8,47] ?_
    refine kE ?_
    obtain rfl := oi h72
    refine kW (L2 := [(2, .bool false), (3, lsv encSt46 2 x0.L_), (4, lsv encSt46 2 x0.M_), (5, .ptr 0 0), (6, .int .i64 x0.Cat_), (7, .str x0.Name_), (8, .bool y1), (47, .bool true)]) (H2 := [.box (encSt33 x0.O_)]) hFH hFD [1] ?_
    exact kN [2, 3, 4, 5, 6, 7, 8, 47]
   ·refine kC 1 [2,3,4,5,6,7,8,28,29] ?_
    obtain ⟨y74, hy75, h76⟩ := bindS h73
    refine kA 30 (exergueref12_Short_ok hy75) ?_
    refine kC 3 [2,3,4,5,6,7,8,33] ?_
    refine kB 33 h76 (fun h78 => ?_) (fun h79 => ?_)
    ·refine kC 14 [2,3,4,5,6,7,8,47] ?_
     refine kE ?_
     obtain rfl := oi h78
     refine kW (L2 := [(2, .bool false), (3, lsv encSt46 2 x0.L_), (4, lsv encSt46 2 x0.M_), (5, .ptr 0 0), (6, .int .i64 x0.Cat_), (7, .str x0.Name_), (8, .bool y1), (47, .bool true)]) (H2 := [.box (encSt33 x0.O_)]) hFH hFD [1] ?_
     exact kN [2, 3, 4, 5, 6, 7, 8, 47]
    ·refine kC 10 [2,3,4,5,6,7,8,43] ?_
     refine kB 43 h79 (fun h81 => ?_) (fun h82 => ?_)
     ·refine kC 4 [2,3,4,5,6,7,8,47] ?_
      refine kE ?_
      obtain rfl := oi h81
      refine kW (L2 := [(2, .bool false), (3, lsv encSt46 2 x0.L_), (4, lsv encSt46 2 x0.M_), (5, .ptr 0 0), (6, .int .i64 x0.Cat_), (7, .str x0.Name_), (8, .bool y1), (47, .bool true)]) (H2 := [.box (encSt33 x0.O_)]) hFH hFD [1] ?_
      exact kN [2, 3, 4, 5, 6, 7, 8, 47]
     ·refine kC 4 [2,3,4,5,6,7,8,47] ?_
      refine kE ?_
      obtain rfl := oi h82
      refine kW (L2 := [(2, .bool false), (3, lsv encSt46 2 x0.L_), (4, lsv encSt46 2 x0.M_), (5, .ptr 0 0), (6, .int .i64 x0.Cat_), (7, .str x0.Name_), (8, .bool y1), (47, .bool ((decide ((x0.Name_.length : Int) > 50))))]) (H2 := [.box (encSt33 x0.O_)]) hFH hFD [1] ?_
      exact kN [2, 3, 4, 5, 6, 7, 8, 47]
  ·refine kBJ 47 h67 (fun h84 => ?_) (fun h85 => ?_)
   ·refine kT ?_
    refine kSR ?_
    refine kC 2 [2,3,4,5,6,7,8] ?_
    refine kEN ?_
    refine kX ?_
    obtain rfl := oi h84
    have h86 := joinX_inr h46
    refine PJ.cutXr (fun e => nomatch e) ?_
    obtain rfl := oi h86
    exact kZ hFn hFH hFD
   ·refine kF ?_
    refine kK ?_
    obtain rfl := oi h85
    exact kXl [2, 3, 4, 5, 6, 7, 8]
 ·subst hs
  have h47 := joinX_inl h46
  refine kSR ?_
  refine kC 1 [2,3,4,5,6,7,8,50] ?_
  obtain ⟨y87, hy88, h89⟩ := bindS h47
  refine kA 51 (plur_Cat_ok hy88) ?_
  refine kC 5 [2,3,4,5,6,7,8,9,10] ?_
  refine kEN ?_
  refine kSR ?_
  refine kC 1 [2,3,4,5,6,8,9,10,55] ?_
  obtain ⟨y90, hy91, h92⟩ := bindS h89
  refine kA 56 (exergueref12_Cat_ok hy91) ?_
  refine kC 5 [2,3,4,5,6,8,9,10,11,12] ?_
  refine kEN ?_
  refine kSR ?_
  refine kC 1 [2,3,4,5,6,8,9,10,11,12,59] ?_
  obtain ⟨y93, hy94, h95⟩ := bindS h92
  refine kA 60 (exergueref12_Right_ok hy94) ?_
  refine kC 1 [2,3,4,5,6,8,9,10,11,12,13] ?_
  refine kEN ?_
  obtain ⟨y160, hy161, h162⟩ := bindS h95
  refine K.cutX (by kernel_rfl) (fun (s159 : Unit) => ([(2, .bool false), (3, lsv encSt46 2 x0.L_), (5, .ptr 0 0), (8, .bool y1), (13, .bool y93)], [.box (encSt33 x0.O_)])) y160 ?_ (fun s159 hs => ?_)
  ·obtain ⟨s191, hy193, h195⟩ := bindS hy161
   refine K.cutN (by kernel_rfl) (fun (s191 : Bool) => ([(2, .bool false), (3, lsv encSt46 2 x0.L_), (5, .ptr 0 0), (8, .bool y1), (13, .bool y93), (90, .bool s191)], [.box (encSt33 x0.O_)])) s191 ?_ ?_
   ·refine kR ?_
    refine kC 1 [2,3,4,5,6,8,9,10,11,12,13,61] ?_
    obtain ⟨y196, hy197, h198⟩ := bindS hy193
    refine kA 62 (plur_Right_ok hy197) ?_
    refine kC 3 [2,3,4,5,6,8,9,10,11,12,13,65] ?_
    refine kB 65 h198 (fun h200 => ?_) (fun h201 => ?_)
    ·refine RJ.seg 25 [2, 3, 5, 8, 13, 90] (L2 := [(2, .bool false), (3, lsv encSt46 2 x0.L_), (5, .ptr 0 0), (8, .bool y1), (13, .bool y93), (90, .bool true)]) (H2 := [.box (encSt33 x0.O_)]) (by kernel_rfl) ?_
     refine kE ?_
     obtain rfl := oi h200
     exact kN [2, 3, 5, 8, 13, 90]
    ·refine RJ.seg 2 [2, 3, 4, 5, 6, 8, 9, 10, 11, 12, 13, 65, 66, 67] (L2 := [(2, .bool false), (3, lsv encSt46 2 x0.L_), (4, lsv encSt46 2 x0.M_), (5, .ptr 0 0), (6, .int .i64 x0.Cat_), (8, .bool y1), (9, .int .i64 y87.1), (10, .bool y87.2), (11, .int .i64 y90.1), (12, .bool y90.2), (13, .bool y93), (65, .bool false), (66, lsv encSt46 2 x0.L_), (67, lsv encSt46 2 x0.M_)]) (H2 := [.box (encSt33 x0.O_)]) (by kernel_rfl) ?_
     obtain ⟨y202, hy203, h204⟩ := bindS h201
     refine kA 68 (plur_Same_ok hy203) ?_
     refine kC 2 [2,3,5,6,8,9,10,11,12,13,65,68,69,70] ?_
     obtain ⟨y205, hy206, h207⟩ := bindS h204
     refine kA 71 (exergueref12_Same_ok hy206) ?_
     refine kC 3 [2,3,5,6,8,9,10,11,12,13,74] ?_
     refine kB 74 h207 (fun h209 => ?_) (fun h210 => ?_)
     ·refine kC 16 [2,3,5,8,13,90] ?_
      refine kE ?_
      obtain rfl := oi h209
      exact kN [2, 3, 5, 8, 13, 90]
     ·refine kC 1 [2,3,5,6,8,9,10,11,12,13,74,75] ?_
      obtain ⟨y211, hy212, h213⟩ := bindS h210
      refine kA 76 (plur_Name_ok hy212) ?_
      refine kC 1 [2,3,5,8,9,10,11,12,13,74,76,77] ?_
      obtain ⟨y214, hy215, h216⟩ := bindS h213
      refine kA 78 (exergueref12_Name_ok hy215) ?_
      refine kC 3 [2,3,5,8,9,10,11,12,13,81] ?_
      refine kB 81 h216 (fun h218 => ?_) (fun h219 => ?_)
      ·refine kC 9 [2,3,5,8,13,90] ?_
       refine kE ?_
       obtain rfl := oi h218
       exact kN [2, 3, 5, 8, 13, 90]
      ·refine kC 5 [2,3,5,8,10,12,13,86] ?_
       refine kB 86 h219 (fun h221 => ?_) (fun h222 => ?_)
       ·refine kC 4 [2,3,5,8,13,90] ?_
        refine kE ?_
        obtain rfl := oi h221
        exact kN [2, 3, 5, 8, 13, 90]
       ·refine kC 4 [2,3,5,8,13,90] ?_
        refine kE ?_
        obtain rfl := oi h222
        exact kN [2, 3, 5, 8, 13, 90]
   ·refine kBJ 90 h195 (fun h224 => ?_) (fun h225 => ?_)
    ·refine kT ?_
     refine kSR ?_
     refine kC 1 [2,3,5,8,13] ?_
     refine kEN ?_
     refine kX ?_
     obtain rfl := oi h224
     have h226 := joinX_inr h162
     refine PJ.cutXr (fun e => nomatch e) ?_
     obtain rfl := oi h226
     exact kZ hFn hFH hFD
    ·refine kF ?_
     refine kK ?_
     obtain rfl := oi h225
     exact kXl [2, 3, 5, 8, 13]
  ·subst hs
   have h163 := joinX_inl h162
   obtain ⟨s245, hy247, h249⟩ := bindS h163
   refine K.cutN (by kernel_rfl) (fun (s245 : Bool) => ([(2, .bool s245)], [])) s245 ?_ ?_
   ·refine J.keep [2, 3, 5, 8, 13] (L2 := [(2, .bool false), (3, lsv encSt46 2 x0.L_), (5, .ptr 0 0), (8, .bool y1), (13, .bool y93)]) (by kernel_rfl) ?_
    refine K.draw (by kernel_rfl) (by kernel_rfl) (by kernel_rfl) (H2 := [.box (encSt33 x0.O_), .res, .res, .res]) (by kernel_rfl) (n := 1) (by kernel_rfl) ?_
    refine kD 2 ?_
    refine kB 92 hy247 (fun h251 => ?_) (fun h252 => ?_)
    ·refine kD 3 ?_
     refine kB 95 h251 (fun h254 => ?_) (fun h255 => ?_)
     ·refine kD 15 ?_
      refine kE ?_
      obtain rfl := oi h254
      refine kW (L2 := [(2, .bool true)]) (H2 := []) hFH hFD [] ?_
      exact kN [2]
     ·refine kD 1 ?_
      obtain ⟨y256, hy257, h258⟩ := bindS h255
      refine RJ.call0 (d := (some 97)) (f := 20) (args := [.agg (encSt33 x0.O_)]) (v := .bool y256) (tr2 := [([], []), ([], []), ([], []), ([], []), ([], []), ([0, 1], []), ([], [2, 3])]) (by kernel_rfl) (by kernel_rfl) (.cons (Le.refl _) .nil) (exergueref07_Right_ok hy257) (by kernel_rfl) ?_
      refine kD 3 ?_
      refine kB 100 h258 (fun h260 => ?_) (fun h261 => ?_)
      ·refine kD 10 ?_
       refine kE ?_
       obtain rfl := oi h260
       refine kW (L2 := [(2, .bool true)]) (H2 := []) hFH hFD [] ?_
       exact kN [2]
      ·refine kD 2 ?_
       obtain ⟨y262, hy263, h264⟩ := bindS h261
       refine RJ.call0 (d := (some 103)) (f := 21) (args := [lsv encSt46 2 x0.L_, .agg (encSt33 x0.O_)]) (v := .int .i64 y262) (tr2 := [([], []), ([], []), ([], []), ([], []), ([], []), ([0, 1], []), ([], [2, 3]), ([], []), ([], []), ([], []), ([], []), ([0, 1], []), ([], [4, 5])]) (by kernel_rfl) (by kernel_rfl) (.cons (Le.refl _) (.cons (Le.refl _) .nil)) (plur_Of_ok hy263) (by kernel_rfl) ?_
       refine kD 2 ?_
       obtain ⟨y265, hy266, h267⟩ := bindS h264
       refine RJ.call0 (d := (some 106)) (f := 22) (args := [lsv encSt46 2 x0.L_, .agg (encSt33 x0.O_)]) (v := .int .i64 y265) (tr2 := [([], []), ([], []), ([], []), ([], []), ([], []), ([0, 1], []), ([], [2, 3]), ([], []), ([], []), ([], []), ([], []), ([0, 1], []), ([], [4, 5]), ([], []), ([0, 1], []), ([], [6, 7])]) (by kernel_rfl) (by kernel_rfl) (.cons (Le.refl _) (.cons (Le.refl _) .nil)) (exergueref12_Of_ok hy266) (by kernel_rfl) ?_
       refine kD 4 ?_
       refine kE ?_
       obtain rfl := oi h267
       refine kW (L2 := [(2, .bool (decide (y262 = y265)))]) (H2 := []) hFH hFD [] ?_
       exact kN [2]
    ·refine kD 18 ?_
     refine kE ?_
     obtain rfl := oi h252
     refine kW (L2 := [(2, .bool false)]) (H2 := []) hFH hFD [] ?_
     exact kN [2]
   ·refine kX ?_
    obtain rfl := oi h249
    exact kZ hFn hFH hFD
end Go.Proofs.YteaokhdkocddcaaGreatDoor
