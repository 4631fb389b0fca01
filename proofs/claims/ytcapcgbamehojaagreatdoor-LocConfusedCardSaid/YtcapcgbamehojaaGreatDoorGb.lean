/-
  What the functions of this program come to, as functions of natives, each with the proof that it does. No conditions.
-/
import Derived.Test.YtcapcgbamehojaaGreatDoorProg
import Derived.Test.YtcapcgbamehojaaGreatDoorSySL
import Derived.Test.YtcapcgbamehojaaGreatDoorGa
namespace Go.Proofs.YtcapcgbamehojaaGreatDoor
open Go Go.Sy Go.RowKit
set_option linter.unusedVariables false
set_option linter.unusedSimpArgs false
set_option maxRecDepth 100000
set_option maxHeartbeats 4000000
def affix_Resolve (x0 : List St106) (x1 : St22) (x2 : List Int) : Option (List Int) :=
 (Option.bind (affix_resolved_s0 x1 x2) fun y0 => (Option.bind (loopN (fun (s0 : Int × (List Int)) => (bif (decide (s0.1 < (x0.length : Int))) then (Option.bind (bif inR s0.1 x0.length then (bif (decide (((nth x0 s0.1).Kind_) = 0)) then (bif room (s0.2.length + ([(nth x0 s0.1).R_] : List Int).length) then (some ((s0.2 ++ ([(nth x0 s0.1).R_] : List Int)))) else none) else (bif (decide (((nth x0 s0.1).Kind_) = 1)) then (bif room (s0.2.length + ([x1.Minus_] : List Int).length) then (some (s0.2 ++ ([x1.Minus_] : List Int))) else none) else (bif (decide (((nth x0 s0.1).Kind_) = 2)) then (bif room (s0.2.length + ([x1.Plus_] : List Int).length) then (some (s0.2 ++ ([x1.Plus_] : List Int))) else none) else (bif (decide (((nth x0 s0.1).Kind_) = 3)) then (bif room (s0.2.length + ([x1.Percent_] : List Int).length) then (some (s0.2 ++ ([x1.Percent_] : List Int))) else none) else (bif (decide (((nth x0 s0.1).Kind_) = 4)) then (bif room (s0.2.length + x2.length) then (some (s0.2 ++ x2)) else none) else (bif room (s0.2.length + ([] : List Int).length) then (some (s0.2 ++ ([] : List Int))) else none)))))) else none) fun (s2 : (List Int)) => (some (.inl ((IntKind.wrap .i64 (s0.1 + 1)), s2)))) else (some (.inr s0.2)))) big (0, ([] : List Int))) fun (s1 : (List Int)) => (some s1)))
theorem affix_Resolve_ok {x0 : List St106} {x1 : St22} {x2 r : List Int} (h : affix_Resolve x0 x1 x2 = some r) : SC Tryz.prog 149 [lsv encSt106 2 x0, .agg (encSt22 x1), lR x2] [] (lR r) [] := by
 refine kFn (fn := Tryz.f149) (fun F hFn hFH hFD => ?_)
 unfold affix_Resolve at h
 refine kq (kn 2 ?_)
 obtain ⟨y0, hy0, h4⟩ := bindS h
 refine kCg (some 13) [] (affix_resolved_s0_ok hy0) (kr 1 (kq (kcN h4 (fun (s1 : (List Int)) => ([(6, .nl), (8, .vc 0)], [vecL (encI .i32) 1 21 s1])) (fun s1 hy1 => ?_) (fun s1 h5 => ?_))))
 ·refine kq (kb 0 (J.wk (Wk.viv 8 1 21 (by kernel_rfl)) (J.wk (Wk.sel (L2 := [(6, .nl), (7, .mp 0), (8, .vc 4), (14, lsv encSt106 2 x0), (15, iL (x0.length : Int)), (16, iL 0)]) (H2 := [.map [(iL 1, .vc 1), (iL 2, .vc 2), (iL 3, .vc 3), (iL 4, lR x2)], vecL (encI .i32) 1 21 ([x1.Minus_] : List Int), vecL (encI .i32) 1 21 ([x1.Plus_] : List Int), vecL (encI .i32) 1 21 ([x1.Percent_] : List Int), vecL (encI .i32) 1 21 ([] : List Int)]) 0 (by rw [hFH]; rfl) hFD [1, 2, 3, 4, 5] (by kernel_rfl) (by kernel_rfl) (by decide) (by kernel_rfl) (by kernel_rfl) (by kernel_rfl) (by kernel_rfl)) (kl (fun (s0 : Int × (List Int)) => ([(6, .nl), (7, .mp 0), (8, .vc 4), (14, lsv encSt106 2 x0), (15, iL (x0.length : Int)), (16, iL s0.1)], [.map [(iL 1, .vc 1), (iL 2, .vc 2), (iL 3, .vc 3), (iL 4, lR x2)], vecL (encI .i32) 1 21 ([x1.Minus_] : List Int), vecL (encI .i32) 1 21 ([x1.Plus_] : List Int), vecL (encI .i32) 1 21 ([x1.Percent_] : List Int), vecL (encI .i32) 1 21 s0.2])) hy1 [6, 7, 8, 14, 15, 16] (fun s0 x324 hs0 => kq (kS (kBT 17 hs0 (fun h6 => ?_) (fun h7 => ?_))))))))
  ·refine kKN (kcN h6 (fun (s2 : (List Int)) => ([(6, .nl), (7, .mp 0), (8, .vc 4), (14, lsv encSt106 2 x0), (15, iL (x0.length : Int)), (16, iL s0.1)], [.map [(iL 1, .vc 1), (iL 2, .vc 2), (iL 3, .vc 3), (iL 4, lR x2)], vecL (encI .i32) 1 21 ([x1.Minus_] : List Int), vecL (encI .i32) 1 21 ([x1.Plus_] : List Int), vecL (encI .i32) 1 21 ([x1.Percent_] : List Int), vecL (encI .i32) 1 21 s2])) (fun s2 hy2 => ?_) (fun s2 h8 => ?_))
   ·refine kb 1 (kSR (kIb 18 encSt106_len hy2 (fun h9 => kr 3 (kq (kBT 22 h9 (fun h10 => ?_) (fun h0 => ?_))))))
    ·exact km 4 (kAp 27 4 7 1 21 [4, 6] (encI .i32) h10 (fun h11 => ke 1 (PJ.blockNormal (kNW h11 hFH hFD [0, 1, 2, 3, 7]))))
    ·refine km 4 ?_
     cases hb0 : (decide (((nth x0 s0.1).Kind_) = 1))
     ·have h1 := condF hb0 h0
      have hn367 := of_decide_eq_false hb0
      cases hb1 : (decide (((nth x0 s0.1).Kind_) = 2))
      ·have h2 := condF hb1 h1
       have hn372 := of_decide_eq_false hb1
       cases hb2 : (decide (((nth x0 s0.1).Kind_) = 3))
       ·have h3 := condF hb2 h2
        have hn377 := of_decide_eq_false hb2
        cases hb3 : (decide (((nth x0 s0.1).Kind_) = 4))
        ·have h12 := condF hb3 h3
         have hn382 := of_decide_eq_false hb3
         exact RJ.look (none) (d := some 32) (ef := ⟨.nl, [0], []⟩) (c := missC (iL ((nth x0 s0.1).Kind_)) [(iL 1, .vc 1), (iL 2, .vc 2), (iL 3, .vc 3), (iL 4, lR x2)]) (tr2 := []) (by kernel_rfl) (by simp [hitC, missC, sameB, sameE, hn367, hn372, hn377, hn382]) (kAp 33 4 6 1 21 [4] (encI .i32) h12 (fun h13 => ke 1 (PJ.blockNormal (kNW h13 hFH hFD [0, 1, 2, 3, 6]))))
        ·have h14 := condT hb3 h3
         have hn382 := of_decide_eq_true hb3
         exact RJ.look (some 3) (d := some 32) (ef := ⟨lR x2, [0], []⟩) (c := hitC (iL ((nth x0 s0.1).Kind_)) [(iL 1, .vc 1), (iL 2, .vc 2), (iL 3, .vc 3), (iL 4, lR x2)] 3) (tr2 := []) (by kernel_rfl) (by simp [hitC, missC, sameB, sameE, hn367, hn372, hn377, hn382]) (kAp 33 4 6 1 21 [4] (encI .i32) h14 (fun h15 => ke 1 (PJ.blockNormal (kNW h15 hFH hFD [0, 1, 2, 3, 6]))))
       ·have h16 := condT hb2 h2
        have hn377 := of_decide_eq_true hb2
        exact RJ.look (some 2) (d := some 32) (ef := ⟨.vc 3, [0], []⟩) (c := hitC (iL ((nth x0 s0.1).Kind_)) [(iL 1, .vc 1), (iL 2, .vc 2), (iL 3, .vc 3), (iL 4, lR x2)] 2) (tr2 := []) (by kernel_rfl) (by simp [hitC, missC, sameB, sameE, hn367, hn372, hn377]) (kAp 33 4 6 1 21 [4, 3] (encI .i32) h16 (fun h17 => ke 1 (PJ.blockNormal (kNW h17 hFH hFD [0, 1, 2, 3, 6]))))
      ·have h18 := condT hb1 h1
       have hn372 := of_decide_eq_true hb1
       exact RJ.look (some 1) (d := some 32) (ef := ⟨.vc 2, [0], []⟩) (c := hitC (iL ((nth x0 s0.1).Kind_)) [(iL 1, .vc 1), (iL 2, .vc 2), (iL 3, .vc 3), (iL 4, lR x2)] 1) (tr2 := []) (by kernel_rfl) (by simp [hitC, missC, sameB, sameE, hn367, hn372]) (kAp 33 4 6 1 21 [4, 2] (encI .i32) h18 (fun h19 => ke 1 (PJ.blockNormal (kNW h19 hFH hFD [0, 1, 2, 3, 6]))))
     ·have h20 := condT hb0 h0
      have hn367 := of_decide_eq_true hb0
      exact RJ.look (some 0) (d := some 32) (ef := ⟨.vc 1, [0], []⟩) (c := hitC (iL ((nth x0 s0.1).Kind_)) [(iL 1, .vc 1), (iL 2, .vc 2), (iL 3, .vc 3), (iL 4, lR x2)] 0) (tr2 := []) (by kernel_rfl) (by simp [hitC, missC, sameB, sameE, hn367]) (kAp 33 4 6 1 21 [4, 1] (encI .i32) h20 (fun h21 => ke 1 (PJ.blockNormal (kNW h21 hFH hFD [0, 1, 2, 3, 6]))))
   ·exact kM (kLo h8 [6, 7, 8, 14, 15, 16])
  ·exact kEp 0 (kLx h7 (fun h22 => PJ.blockOut (kNW h22 hFH hFD [4])))
 ·exact kq (kX (by obtain rfl := oi h5; exact PJ.wk (Wk.freeze 0 (n := s1.length) (k := 1) (e := 21) (cs := s1.flatMap (encI .i32)) (by kernel_rfl)) (kZ hFn hFH hFD)))
def affix_Of (x0 : St32) (x1 : St22) (x2 : Int) (x3 : List Int) : Option (St63) :=
 (Option.bind (affix_Signed x0 x2) fun y0 => (Option.bind (affix_Resolve y0.1 x1 x3) fun y1 => (Option.bind (affix_Resolve y0.2 x1 x3) fun y2 => (some (⟨y1, y2⟩ : St63)))))
theorem affix_Of_ok {x0 : St32} {x1 : St22} {x2 : Int} {x3 : List Int} {r : St63} (h : affix_Of x0 x1 x2 x3 = some r) : SC Tryz.prog 118 [.agg (encSt32 x0), .agg (encSt22 x1), iL x2, lR x3] [] (.agg (encSt63 r)) [] := by
 refine kFn (fn := Tryz.f118) (fun F hFn hFH hFD => ?_)
 unfold affix_Of at h
 refine kq (kn 2 (kAb 14 h (fun _ => affix_Signed_ok) (fun y0 h0 => kr 5 (kS (kDr (kD 3 ?_))))))
 obtain ⟨y1, hy0, h1⟩ := bindS h0
 refine RJ.call0 (d := (some 20)) (f := 149) (args := [lsv encSt106 2 y0.1, .agg (encSt22 x1), lR x3]) (v := lR y1) (tr2 := [([], []), ([2, 3], []), ([], []), ([], [6, 7])]) (by kernel_rfl) (by kernel_rfl) (.cons (Le.refl _) (.cons (Le.refl _) (.cons (Le.refl _) .nil))) (affix_Resolve_ok hy0) (by kernel_rfl) (kD 3 ?_)
 obtain ⟨y2, hy1, h2⟩ := bindS h1
 exact RJ.call0 (d := (some 24)) (f := 149) (args := [lsv encSt106 2 y0.2, .agg (encSt22 x1), lR x3]) (v := lR y2) (tr2 := [([], []), ([2, 3], []), ([], []), ([], [6, 7]), ([], []), ([2, 3], []), ([], []), ([], [8, 9])]) (by kernel_rfl) (by kernel_rfl) (.cons (Le.refl _) (.cons (Le.refl _) (.cons (Le.refl _) .nil))) (affix_Resolve_ok hy1) (by kernel_rfl) (kD 2 (kEN (kX (by obtain rfl := oi h2; exact kZ hFn hFH hFD))))
def loc_around (x0 : St22) (x1 : St32) (x2 : List Int) : Option (St124) :=
 (Option.bind (affix_Of x1 x0 0 x2) fun y0 => (Option.bind (affix_Of x1 x0 1 x2) fun y1 => (Option.bind (affix_Of x1 x0 2 x2) fun y2 => (some (⟨y0, y1, y2⟩ : St124)))))
theorem loc_around_ok {x0 : St22} {x1 : St32} {x2 : List Int} {r : St124} (h : loc_around x0 x1 x2 = some r) : SC Tryz.prog 80 [.agg (encSt22 x0), .agg (encSt32 x1), lR x2] [] (.agg (encSt124 r)) [] := by
 refine kFn (fn := Tryz.f80) (fun F hFn hFH hFD => ?_)
 unfold loc_around at h
 refine kq (kS (kDr (kD 3 ?_)))
 obtain ⟨y0, hy0, h0⟩ := bindS h
 refine RJ.call0 (d := (some 10)) (f := 118) (args := [.agg (encSt32 x1), .agg (encSt22 x0), iL 0, lR x2]) (v := .agg (encSt63 y0)) (tr2 := [([2, 3], []), ([0, 1], []), ([], []), ([], [6, 7])]) (by kernel_rfl) (by kernel_rfl) (.cons (Le.refl _) (.cons (Le.refl _) (.cons (Le.refl _) (.cons (Le.refl _) .nil)))) (affix_Of_ok hy0) (by kernel_rfl) (kD 3 ?_)
 obtain ⟨y1, hy1, h1⟩ := bindS h0
 refine RJ.call0 (d := (some 14)) (f := 118) (args := [.agg (encSt32 x1), .agg (encSt22 x0), iL 1, lR x2]) (v := .agg (encSt63 y1)) (tr2 := [([2, 3], []), ([0, 1], []), ([], []), ([], [6, 7]), ([2, 3], []), ([0, 1], []), ([], []), ([], [8, 9])]) (by kernel_rfl) (by kernel_rfl) (.cons (Le.refl _) (.cons (Le.refl _) (.cons (Le.refl _) (.cons (Le.refl _) .nil)))) (affix_Of_ok hy1) (by kernel_rfl) (kD 3 ?_)
 obtain ⟨y2, hy2, h2⟩ := bindS h1
 exact RJ.call0 (d := (some 18)) (f := 118) (args := [.agg (encSt32 x1), .agg (encSt22 x0), iL 2, lR x2]) (v := .agg (encSt63 y2)) (tr2 := [([2, 3], []), ([0, 1], []), ([], []), ([], [6, 7]), ([2, 3], []), ([0, 1], []), ([], []), ([], [8, 9]), ([2, 3], []), ([0, 1], []), ([], []), ([], [10, 11])]) (by kernel_rfl) (by kernel_rfl) (.cons (Le.refl _) (.cons (Le.refl _) (.cons (Le.refl _) (.cons (Le.refl _) .nil)))) (affix_Of_ok hy2) (by kernel_rfl) (kD 2 (kEN (kX (by obtain rfl := oi h2; exact kZ hFn hFH hFD))))
def slices_Clone (x0 : List Int) : Option (List Int) :=
 (bif (Nat.beq x0.length 0) then agree (some ([] : List Int)) (bif room x0.length then (some x0) else none) else (bif room x0.length then (some x0) else none))
theorem slices_Clone_ok_o {x0 r : List Int} (h : slices_Clone x0 = some r) : SC Tryz.prog 119 [lR x0] [] (.vc 0) [vecL (encI .i32) 1 21 r] := by
 refine kFn (fn := Tryz.f119) (fun F hFn hFH hFD => ?_)
 unfold slices_Clone at h
 refine kq (kS (kn 1 (RJ.isNil (d := 4) (n := x0.length) (eq := true) (by kernel_rfl) (fun b hb0 => ?_))))
 cases b
 ·have h0 := agreeF h
  refine kEN (kF (kKN (kn 2 ?_)))
  obtain ⟨hm, h1⟩ := asrt h0
  exact RJ.rel (d := (some 7)) (ef' := ⟨.vc 0, [], [(0, .vec x0.length 1 21 (x0.flatMap (encI .i32)))]⟩) (tr2 := []) (H2 := [vecL (encI .i32) 1 21 x0]) (by kernel_rfl) hm (fun hc => rfl) (by kernel_rfl) (kr 1 (kX (by obtain rfl := oi h1; exact kRV [0] (.inr rfl) hFn hFH hFD)))
 ·have h2 := agreeT (by rw [hb0 rfl]; rfl) h
  exact kEN (kT (kq (kX (PJ.passRet (by obtain rfl := oi h2; exact PJ.wk (Wk.viv 2 1 21 (by kernel_rfl)) (kRV [0] (.inr rfl) hFn hFH hFD))))))
def k0_ : List Int := [48, 1632, 1776, 1984, 2406, 2534, 2662, 2790, 2918, 3046, 3174, 3302, 3430, 3664, 3792, 3872, 6112, 6160, 65296, 120782]
def class_Value (x0 : Int) : Option (Int × Bool) :=
 (Option.bind (loopN (fun (s0 : Int) => (bif (decide (s0 < 20)) then (Option.bind (bif inR s0 20 then (Option.bind (bif (decide ((nth k0_ s0) ≤ x0)) then (some ((decide (x0 ≤ ((IntKind.wrap .i32 ((nth k0_ s0) + 9))))))) else (some false)) fun (s1 : Bool) => (bif s1 then (some (.inr (.inr (.inr ((IntKind.wrap .i64 ((IntKind.wrap .i32 (x0 - (nth k0_ s0))))), true))))) else (some (.inl ())))) else none) (joinX fun (s2 : Unit) => (some (.inl (IntKind.wrap .i64 (s0 + 1)))))) else (some (.inr (.inl ()))))) big 0) (joinX fun (s3 : Unit) => (some (0, false))))
theorem class_Value_ok {x0 : Int} {r : Int × Bool} (h : class_Value x0 = some r) : SC Tryz.prog 92 [iM x0] [] (.tup [iL r.1, .bool r.2]) [] := by
 refine kFn (fn := Tryz.f92) (fun F hFn hFH hFD => ?_)
 unfold class_Value at h
 refine kq (kcX h (fun (s3 : Unit) => ([(2, iL 0), (3, .bool false)], [])) (fun y0 hy0 h0 => ?_) (fun s3 h1 => ?_))
 ·refine kq (kb 0 (kl (fun (s0 : Int) => ([(0, iM x0), (2, iL 0), (3, .bool false), (6, .agg [iM 48, iM 1632, iM 1776, iM 1984, iM 2406, iM 2534, iM 2662, iM 2790, iM 2918, iM 3046, iM 3174, iM 3302, iM 3430, iM 3664, iM 3792, iM 3872, iM 6112, iM 6160, iM 65296, iM 120782]), (7, iL s0)], [])) hy0 [0, 2, 3, 6, 7] (fun s0 x247 hs0 => kq (kS (kBT 8 hs0 (fun h2 => ?_) (fun h3 => ?_))))))
  ·refine kKN (kcX h2 (fun (s2 : Unit) => ([(0, iM x0), (2, iL 0), (3, .bool false), (6, .agg [iM 48, iM 1632, iM 1776, iM 1984, iM 2406, iM 2534, iM 2662, iM 2790, iM 2918, iM 3046, iM 3174, iM 3302, iM 3430, iM 3664, iM 3792, iM 3872, iM 6112, iM 6160, iM 65296, iM 120782]), (7, iL s0)], [])) (fun y1 hy1 h4 => ?_) (fun s2 h5 => ?_))
   ·refine kb 1 (kSR ?_)
    obtain ⟨hm, h6⟩ := asrt hy1
    exact RJ.rel (d := (some 9)) (ef := ⟨((k0_.flatMap (encI .i32)).drop ((s0 : Int).toNat * 1)).headD .undef, [], []⟩) (ef' := ⟨iM (nth k0_ s0), [], []⟩) (c := inR s0 20) (tr2 := []) (H2 := []) (by kernel_rfl) hm (fun hc => N.load1 (encI_len .i32) (fun _ => rfl) hc) (by kernel_rfl) (kr 1 (kcN h6 (fun (s1 : Bool) => ([(0, iM x0), (2, iL 0), (3, .bool false), (5, iM (nth k0_ s0)), (6, .agg [iM 48, iM 1632, iM 1776, iM 1984, iM 2406, iM 2534, iM 2662, iM 2790, iM 2918, iM 3046, iM 3174, iM 3302, iM 3430, iM 3664, iM 3792, iM 3872, iM 6112, iM 6160, iM 65296, iM 120782]), (7, iL s0), (18, .bool s1)], [])) (fun s1 hy2 => km 4 (kB 13 hy2 (fun h8 => ke 5 (kNo h8 [0, 2, 3, 5, 6, 7, 18])) (fun h9 => ke 5 (kNo h9 [0, 2, 3, 5, 6, 7, 18])))) (fun s1 h7 => kBT 18 h7 (fun h10 => kq (kXb (kCx h10 h4 (fun h12 => kLx h12 (fun h13 => PJ.blockRet (kCx h13 h0 (fun h14 => by obtain rfl := oi h14; exact kZ hFn hFH hFD))))))) (fun h11 => kKb (kXo h11 [0, 2, 3, 6, 7])))))
   ·exact kM (kLo h5 [0, 2, 3, 6, 7])
  ·exact kEp 0 (kLx h3 (fun h15 => PJ.blockOut (kXo h15 [2, 3])))
 ·exact kq (kX (by obtain rfl := oi h1; exact kZ hFn hFH hFD))
def sym_between (x0 : St22) (x1 : Int) : Option (Bool) :=
 (Option.bind (bif (decide (x1 = x0.Dec_)) then (some true) else (bif (decide (x1 = x0.Group_)) then (some true) else (some (decide (x1 = x0.Exp_))))) fun (s0 : Bool) => (some s0))
theorem sym_between_ok {x0 : St22} {x1 : Int} {r : Bool} (h : sym_between x0 x1 = some r) : SC Tryz.prog 93 [.agg (encSt22 x0), iM x1] [] (.bool r) [] := by
 refine kFn (fn := Tryz.f93) (fun F hFn hFH hFD => ?_)
 unfold sym_between at h
 exact kq (kcN h (fun (s0 : Bool) => ([(4, .bool s0)], [])) (fun s0 hy0 => km 5 (kB 9 hy0 (fun h1 => ke 12 (kNW h1 hFH hFD [])) (fun h2 => kc 6 (kB 15 h2 (fun h3 => ke 6 (kNW h3 hFH hFD [])) (fun h4 => ke 6 (kNW h4 hFH hFD [])))))) (fun s0 h0 => kX (by obtain rfl := oi h0; exact kZ hFn hFH hFD)))
structure St196 where
 a0_ : Int
 a1_ : Int
 deriving Inhabited, DecidableEq
def encSt196 (x : St196) : List SV := [.int .i32 x.a0_, .int .i32 x.a1_]
theorem encSt196_len (x : St196) : (encSt196 x).length = 2 := rfl
def class_ranges_s0  : Option ((List (St196 × Int))) :=
 (some (([((⟨0, 31⟩ : St196), 1), ((⟨127, 159⟩ : St196), 1), ((⟨1564, 1564⟩ : St196), 2), ((⟨8206, 8207⟩ : St196), 2), ((⟨8234, 8238⟩ : St196), 2), ((⟨8294, 8297⟩ : St196), 2), ((⟨64976, 65007⟩ : St196), 3), ((⟨32, 32⟩ : St196), 4), ((⟨160, 160⟩ : St196), 4), ((⟨5760, 5760⟩ : St196), 4), ((⟨8192, 8202⟩ : St196), 4), ((⟨8232, 8233⟩ : St196), 4), ((⟨8239, 8239⟩ : St196), 4), ((⟨8287, 8287⟩ : St196), 4), ((⟨12288, 12288⟩ : St196), 4)] : List (St196 × Int))))
theorem class_ranges_s0_ok  {r : (List (St196 × Int))} (h : class_ranges_s0 = some r) : SC Tryz.prog 121 [] [] (.mp 0) [.pmap (mapL (fun k : St196 => .agg (encSt196 k)) (fun k : Int => iL k) r)] := by
 refine kFn (fn := Tryz.f121) (fun F hFn hFH hFD => ?_)
 unfold class_ranges_s0 at h
 exact kq (kS (J.keep [] (L2 := []) (by kernel_rfl) (K.mapLitC 196 (es := mapL (fun k : St196 => .agg (encSt196 k)) (fun k : Int => iL k) ([((⟨0, 31⟩ : St196), 1), ((⟨127, 159⟩ : St196), 1), ((⟨1564, 1564⟩ : St196), 2), ((⟨8206, 8207⟩ : St196), 2), ((⟨8234, 8238⟩ : St196), 2), ((⟨8294, 8297⟩ : St196), 2), ((⟨64976, 65007⟩ : St196), 3), ((⟨32, 32⟩ : St196), 4), ((⟨160, 160⟩ : St196), 4), ((⟨5760, 5760⟩ : St196), 4), ((⟨8192, 8202⟩ : St196), 4), ((⟨8232, 8233⟩ : St196), 4), ((⟨8239, 8239⟩ : St196), 4), ((⟨8287, 8287⟩ : St196), 4), ((⟨12288, 12288⟩ : St196), 4)] : List (St196 × Int))) (L2 := [(0, .mp 0)]) (by kernel_rfl) (by kernel_rfl) (n := 0) (by kernel_rfl) (by kernel_rfl) (by kernel_rfl) (by kernel_rfl) (by kernel_rfl) (by kernel_rfl) [0] (by kernel_rfl) (PJ.next (kX (by obtain rfl := oi h; exact K.retV (H0 := []) [0] (.inr rfl) hFn hFH hFD (by kernel_rfl) (v1 := .mp 0) (by kernel_rfl) (by kernel_rfl) (by simp only [List.map_cons, List.map_nil, rn_pmapL (ek := (fun k : St196 => .agg (encSt196 k))) (ev := (fun k : Int => iL k)) (fun _ _ => rfl) (fun _ _ => rfl)]; kernel_rfl) (by decide) (by simp only [List.all_cons, List.all_nil, refs_pmapL (ek := (fun k : St196 => .agg (encSt196 k))) (ev := (fun k : Int => iL k)) (fun _ _ => rfl) (fun _ _ => rfl)]; kernel_rfl) (by kernel_rfl) (by kernel_rfl) (by kernel_rfl) (by kernel_rfl)))))))
def class_table__class_s0 (x0 : Int) (x1 : List (St196 × Int)) : Option (Int × (List (St196 × Int))) :=
 (Option.bind (utf_Is x0) fun y0 => (bif (!y0) then (some (6, x1)) else (bif (decide ((bits .and .i32 x0 65534) = 65534)) then (some (3, x1)) else (Option.bind (Option.bind (mapRun (fun (e49 : St196 × Int) => (Option.bind (bif (decide (e49.1.a0_ ≤ x0)) then (some (decide (x0 ≤ e49.1.a1_))) else (some false)) fun (s0 : Bool) => (bif s0 then (some (.inr (.inr (((mget (fun a b : St196 => ((decide (a.a0_ = b.a0_)) && ((decide (a.a1_ = b.a1_)) && true))) x1 e49.1).getD 0), x1)))) else (some (.inl ()))))) x1) (joinX fun (_ : Unit) => (some (.inl ())))) (joinX fun (s1 : Unit) => (Option.bind (class_Value x0) fun y1 => (bif y1.2 then (some (5, x1)) else (some (0, x1)))))))))
theorem class_table__class_s0_ok {x0 : Int} {x1 : List (St196 × Int)} {r : Int × (List (St196 × Int))} (h : class_table__class_s0 x0 x1 = some r) : SC Tryz.prog 122 [.mp 0, iM x0] [.map (mapL (fun k : St196 => .agg (encSt196 k)) (fun k : Int => iL k) x1)] (iL r.1) [.map (mapL (fun k : St196 => .agg (encSt196 k)) (fun k : Int => iL k) r.2)] := by
 refine kFn (fn := Tryz.f122) (fun F hFn hFH hFD => ?_)
 unfold class_table__class_s0 at h
 refine kq (kS (kn 1 (kAb 9 h (fun _ => utf_Is_ok) (fun y0 h1 => kr 1 (kBT 10 h1 (fun h2 => ?_) (fun h3 => ?_))))))
 ·exact kq (kX (PJ.passRet (by obtain rfl := oi h2; exact K.retV (H0 := [.map (mapL (fun k : St196 => .agg (encSt196 k)) (fun k : Int => iL k) x1)]) [0] (.inr rfl) hFn hFH hFD (by kernel_rfl) (v1 := iL 6) (by kernel_rfl) (by kernel_rfl) (by simp only [List.map_cons, List.map_nil, rn_mapL (ek := (fun k : St196 => .agg (encSt196 k))) (ev := (fun k : Int => iL k)) (fun _ _ => rfl) (fun _ _ => rfl)]; kernel_rfl) (by decide) (by simp only [List.all_cons, List.all_nil, refs_mapL (ek := (fun k : St196 => .agg (encSt196 k))) (ev := (fun k : Int => iL k)) (fun _ _ => rfl) (fun _ _ => rfl)]; kernel_rfl) (by kernel_rfl) (by kernel_rfl) (by kernel_rfl) (by kernel_rfl))))
 ·refine kKN (kS (kq (kBT 13 h3 (fun h4 => ?_) (fun h5 => ?_))))
  ·exact kq (kX (PJ.passRet (by obtain rfl := oi h4; exact K.retV (H0 := [.map (mapL (fun k : St196 => .agg (encSt196 k)) (fun k : Int => iL k) x1)]) [0] (.inr rfl) hFn hFH hFD (by kernel_rfl) (v1 := iL 3) (by kernel_rfl) (by kernel_rfl) (by simp only [List.map_cons, List.map_nil, rn_mapL (ek := (fun k : St196 => .agg (encSt196 k))) (ev := (fun k : Int => iL k)) (fun _ _ => rfl) (fun _ _ => rfl)]; kernel_rfl) (by decide) (by simp only [List.all_cons, List.all_nil, refs_mapL (ek := (fun k : St196 => .agg (encSt196 k))) (ev := (fun k : Int => iL k)) (fun _ _ => rfl) (fun _ _ => rfl)]; kernel_rfl) (by kernel_rfl) (by kernel_rfl) (by kernel_rfl) (by kernel_rfl))))
  ·refine kKN (kcX h5 (fun (s1 : Unit) => ([(1, iM x0), (4, iL 0)], [.map (mapL (fun k : St196 => .agg (encSt196 k)) (fun k : Int => iL k) x1)])) (fun y2 hy0 h6 => ?_) (fun s1 h7 => ?_))
   ·refine kn 1 (RJ.range (d := (some 15)) (i := 0) (n := (mapL (fun k : St196 => .agg (encSt196 k)) (fun k : Int => iL k) x1).length) (by kernel_rfl) (kEN (kb 0 ?_)))
    obtain ⟨y3, hy1, h0⟩ := bindS hy0
    refine K.mapLoop 15 16 17 0 1 0 (n := (mapL (fun k : St196 => .agg (encSt196 k)) (fun k : Int => iL k) x1).length) (by kernel_rfl) (by kernel_rfl) _ _ (fun p : St196 × Int => ((fun k : St196 => .agg (encSt196 k)) p.1, (fun k : Int => iL k) p.2)) hy1 [0, 1, 4, 15] (L2 := [(0, .mp 0), (1, iM x0), (4, iL 0), (15, .ptr 1 0)]) (by kernel_rfl) (by kernel_rfl) (by kernel_rfl) (by kernel_rfl) (by kernel_rfl) (by kernel_rfl) (fun sq => [.map (mapL (fun k : St196 => .agg (encSt196 k)) (fun k : Int => iL k) x1), .itr 0 ((mapL (fun k : St196 => .agg (encSt196 k)) (fun k : Int => iL k) x1).length) sq]) (by kernel_rfl) (fun _ _ => by kernel_rfl) (fun _ => by kernel_rfl) (fun _ => by kernel_rfl) rfl (fun sv50 he0 => ?_) (fun sv50 bv51 e49 x70 hb0 hx46 => ?_)
    ·subst he0
     have h8 := joinX_inl h0
     exact PJ.blockOut (PJ.wk (Wk.sel (L2 := [(1, iM x0), (4, iL 0)]) (H2 := [.map (mapL (fun k : St196 => .agg (encSt196 k)) (fun k : Int => iL k) x1)]) 1 (by rw [hFH]; rfl) hFD [0] (by kernel_rfl) (by simp only [List.map_cons, List.map_nil, rn_mapL (ek := (fun k : St196 => .agg (encSt196 k))) (ev := (fun k : Int => iL k)) (fun _ _ => rfl) (fun _ _ => rfl)]; kernel_rfl) (by decide) (by simp only [List.all_cons, List.all_nil, refs_mapL (ek := (fun k : St196 => .agg (encSt196 k))) (ev := (fun k : Int => iL k)) (fun _ _ => rfl) (fun _ _ => rfl)]; kernel_rfl) (by kernel_rfl) (by kernel_rfl) (by kernel_rfl)) (kXo h8 [1, 4]))
    ·refine kb 1 (kSR (RJ.entry (d := (some 18)) (i := 0) (n := (mapL (fun k : St196 => .agg (encSt196 k)) (fun k : Int => iL k) x1).length) (b := bv51) (s := sv50) (kv := ((.agg (encSt196 e49.1) : SV), (iL e49.2 : SV))) (by kernel_rfl) (by kernel_rfl) rfl hb0 (kr 3 (kcN hx46 (fun (s0 : Bool) => ([(0, .mp 0), (1, iM x0), (4, iL 0), (5, .ptr 1 0), (15, .ptr 2 0), (29, .bool s0)], [.map (mapL (fun k : St196 => .agg (encSt196 k)) (fun k : Int => iL k) x1), .box (encSt196 e49.1), .itr 0 ((mapL (fun k : St196 => .agg (encSt196 k)) (fun k : Int => iL k) x1).length) (sv50 ++ [bv51])])) (fun s0 hy2 => ?_) (fun s0 h9 => ?_)))))
     ·exact km 5 (kB 24 hy2 (fun h10 => ke 5 (PJ.wk (Wk.sel (L2 := [(0, .mp 0), (1, iM x0), (4, iL 0), (5, .ptr 1 0), (15, .ptr 2 0), (29, .bool (decide (x0 ≤ e49.1.a1_)))]) (H2 := [.map (mapL (fun k : St196 => .agg (encSt196 k)) (fun k : Int => iL k) x1), .box (encSt196 e49.1), .itr 0 ((mapL (fun k : St196 => .agg (encSt196 k)) (fun k : Int => iL k) x1).length) (sv50 ++ [bv51])]) 1 (by rw [hFH]; rfl) hFD [0, 2, 1] (by kernel_rfl) (by simp only [List.map_cons, List.map_nil, rn_mapL (ek := (fun k : St196 => .agg (encSt196 k))) (ev := (fun k : Int => iL k)) (fun _ _ => rfl) (fun _ _ => rfl)]; kernel_rfl) (by decide) (by simp only [List.all_cons, List.all_nil, refs_mapL (ek := (fun k : St196 => .agg (encSt196 k))) (ev := (fun k : Int => iL k)) (fun _ _ => rfl) (fun _ _ => rfl)]; kernel_rfl) (by kernel_rfl) (by kernel_rfl) (by kernel_rfl)) (kNo h10 [0, 1, 4, 5, 15, 29]))) (fun h11 => ke 5 (PJ.wk (Wk.sel (L2 := [(0, .mp 0), (1, iM x0), (4, iL 0), (5, .ptr 1 0), (15, .ptr 2 0), (29, .bool false)]) (H2 := [.map (mapL (fun k : St196 => .agg (encSt196 k)) (fun k : Int => iL k) x1), .box (encSt196 e49.1), .itr 0 ((mapL (fun k : St196 => .agg (encSt196 k)) (fun k : Int => iL k) x1).length) (sv50 ++ [bv51])]) 1 (by rw [hFH]; rfl) hFD [0, 2, 1] (by kernel_rfl) (by simp only [List.map_cons, List.map_nil, rn_mapL (ek := (fun k : St196 => .agg (encSt196 k))) (ev := (fun k : Int => iL k)) (fun _ _ => rfl) (fun _ _ => rfl)]; kernel_rfl) (by decide) (by simp only [List.all_cons, List.all_nil, refs_mapL (ek := (fun k : St196 => .agg (encSt196 k))) (ev := (fun k : Int => iL k)) (fun _ _ => rfl) (fun _ _ => rfl)]; kernel_rfl) (by kernel_rfl) (by kernel_rfl) (by kernel_rfl)) (kNo h11 [0, 1, 4, 5, 15, 29]))))
     ·refine kBT 29 h9 (fun h12 => ?_) (fun h13 => ?_)
      ·refine kn 2 (RJ.lookD (d := (some 32)) (kt := 196) (i := 0) (cs := (encSt196 e49.1)) (ok := false) (tr2 := []) (fun k : St196 => .agg (encSt196 k)) (fun k : Int => iL k) (fun a b : St196 => ((decide (a.a0_ = b.a0_)) && ((decide (a.a1_ = b.a1_)) && true))) x1 e49.1 (0 : Int) (by kernel_rfl) rfl (fun a b => by kernel_rfl) (kr 1 (kXb ?_)))
       obtain rfl := oi h12
       refine PJ.mapOut (fun e => nomatch e) (fun he1 => ?_)
       subst he1
       have h14 := joinX_inr h0
       exact PJ.blockRet (kCx h14 h6 (fun h15 => by obtain rfl := oi h15; exact K.retV (H0 := [.map (mapL (fun k : St196 => .agg (encSt196 k)) (fun k : Int => iL k) x1)]) [0] (.inr rfl) hFn hFH hFD (by kernel_rfl) (v1 := iL (((mget (fun a b : St196 => ((decide (a.a0_ = b.a0_)) && ((decide (a.a1_ = b.a1_)) && true))) x1 e49.1).getD 0))) (by kernel_rfl) (by kernel_rfl) (by simp only [List.map_cons, List.map_nil, rn_mapL (ek := (fun k : St196 => .agg (encSt196 k))) (ev := (fun k : Int => iL k)) (fun _ _ => rfl) (fun _ _ => rfl)]; kernel_rfl) (by decide) (by simp only [List.all_cons, List.all_nil, refs_mapL (ek := (fun k : St196 => .agg (encSt196 k))) (ev := (fun k : Int => iL k)) (fun _ _ => rfl) (fun _ _ => rfl)]; kernel_rfl) (by kernel_rfl) (by kernel_rfl) (by kernel_rfl) (by kernel_rfl)))
      ·exact kKb (by obtain rfl := oi h13; exact PJ.wk (Wk.sel (L2 := [(0, .mp 0), (1, iM x0), (4, iL 0), (15, .ptr 1 0)]) (H2 := [.map (mapL (fun k : St196 => .agg (encSt196 k)) (fun k : Int => iL k) x1), .itr 0 ((mapL (fun k : St196 => .agg (encSt196 k)) (fun k : Int => iL k) x1).length) (sv50 ++ [bv51])]) 1 (by rw [hFH]; rfl) hFD [0, 2] (by kernel_rfl) (by simp only [List.map_cons, List.map_nil, rn_mapL (ek := (fun k : St196 => .agg (encSt196 k))) (ev := (fun k : Int => iL k)) (fun _ _ => rfl) (fun _ _ => rfl)]; kernel_rfl) (by decide) (by simp only [List.all_cons, List.all_nil, refs_mapL (ek := (fun k : St196 => .agg (encSt196 k))) (ev := (fun k : Int => iL k)) (fun _ _ => rfl) (fun _ _ => rfl)]; kernel_rfl) (by kernel_rfl) (by kernel_rfl) (by kernel_rfl)) (PJ.mapNext [0, 1, 4, 15] (by kernel_rfl) (by kernel_rfl)))
   ·exact kS (kn 1 (kAb 35 h7 (fun _ => class_Value_ok) (fun y1 h16 => kr 5 (kq (kBT 38 h16 (fun h17 => kq (kX (PJ.passRet (by obtain rfl := oi h17; exact K.retV (H0 := [.map (mapL (fun k : St196 => .agg (encSt196 k)) (fun k : Int => iL k) x1)]) [0] (.inr rfl) hFn hFH hFD (by kernel_rfl) (v1 := iL 5) (by kernel_rfl) (by kernel_rfl) (by simp only [List.map_cons, List.map_nil, rn_mapL (ek := (fun k : St196 => .agg (encSt196 k))) (ev := (fun k : Int => iL k)) (fun _ _ => rfl) (fun _ _ => rfl)]; kernel_rfl) (by decide) (by simp only [List.all_cons, List.all_nil, refs_mapL (ek := (fun k : St196 => .agg (encSt196 k))) (ev := (fun k : Int => iL k)) (fun _ _ => rfl) (fun _ _ => rfl)]; kernel_rfl) (by kernel_rfl) (by kernel_rfl) (by kernel_rfl) (by kernel_rfl))))) (fun h18 => kKN (kq (kX (by obtain rfl := oi h18; exact K.retV (H0 := [.map (mapL (fun k : St196 => .agg (encSt196 k)) (fun k : Int => iL k) x1)]) [0] (.inr rfl) hFn hFH hFD (by kernel_rfl) (v1 := iL 0) (by kernel_rfl) (by kernel_rfl) (by simp only [List.map_cons, List.map_nil, rn_mapL (ek := (fun k : St196 => .agg (encSt196 k))) (ev := (fun k : Int => iL k)) (fun _ _ => rfl) (fun _ _ => rfl)]; kernel_rfl) (by decide) (by simp only [List.all_cons, List.all_nil, refs_mapL (ek := (fun k : St196 => .agg (encSt196 k))) (ev := (fun k : Int => iL k)) (fun _ _ => rfl) (fun _ _ => rfl)]; kernel_rfl) (by kernel_rfl) (by kernel_rfl) (by kernel_rfl) (by kernel_rfl))))))))))
noncomputable def class_CalmM (x0 : List Int) : Option (Bool) :=
 (Option.bind class_ranges_s0 fun y1 => anyOrd (fun (ms4 : List (St196 × Int)) => (Option.bind (loopN (fun (s0 : Int × (List (St196 × Int))) => (bif (decide (s0.1 < (x0.length : Int))) then (Option.bind (bif inR s0.1 x0.length then (Option.bind (class_table__class_s0 (nth x0 s0.1) s0.2) fun y0 => (Option.bind (bif (decide (y0.1 = 0)) then (some true) else (bif (decide (y0.1 = 4)) then (some true) else (bif (decide (y0.1 = 5)) then (some true) else (some (decide (y0.1 = 2)))))) fun (s1 : Bool) => (bif s1 then (some (.inl y0.2)) else (some (.inr (.inr (.inr false))))))) else none) (joinX fun (s2 : (List (St196 × Int))) => (some (.inl ((IntKind.wrap .i64 (s0.1 + 1)), s2))))) else (some (.inr (.inl ()))))) big (0, ms4)) (joinX fun (s3 : Unit) => (some true)))) y1)
theorem class_CalmM_ok {x0 : List Int} {r : Bool} (h : class_CalmM x0 = some r) : SC Tryz.prog 94 [lR x0] [] (.bool r) [] := by
 refine kFn (fn := Tryz.f94) (fun F hFn hFH hFD => ?_)
 unfold class_CalmM at h
 refine kq (kSR ?_)
 obtain ⟨y1, hy0, h0⟩ := bindS h
 refine RJ.callG (d := (some 6)) (f := 121) (args := []) (args0 := []) (v0 := .mp 0) (v := .mp 0) (tr2 := []) (H0 := []) (H0' := [.pmap (mapL (fun k : St196 => .agg (encSt196 k)) (fun k : Int => iL k) y1)]) (H2 := [.pmap (mapL (fun k : St196 => .agg (encSt196 k)) (fun k : Int => iL k) y1)]) [] (by kernel_rfl) (by kernel_rfl) (by kernel_rfl) (by kernel_rfl) (by decide) (by kernel_rfl) (by kernel_rfl) (by kernel_rfl) .nil (class_ranges_s0_ok hy0) (by kernel_rfl) (by kernel_rfl) ((show frameH (selF []) 0 _ [.pmap (mapL (fun k : St196 => .agg (encSt196 k)) (fun k : Int => iL k) y1)] = [Ent.rn (gOf (selF []) 0 0) (.pmap (mapL (fun k : St196 => .agg (encSt196 k)) (fun k : Int => iL k) y1))] by kernel_rfl).trans (by simp only [rn_pmapL (ek := (fun k : St196 => .agg (encSt196 k))) (ev := (fun k : Int => iL k)) (fun _ _ => rfl) (fun _ _ => rfl)])) (RJ.openMap (ek := (fun k : St196 => .agg (encSt196 k))) (ev := (fun k : Int => iL k)) y1 0 (fun ms4 => [.map (mapL (fun k : St196 => .agg (encSt196 k)) (fun k : Int => iL k) ms4)]) (by kernel_rfl) (fun _ => by kernel_rfl) (fun ms4 hp5 => ?_))
 have h1 := anyOrd_all h0 ms4 hp5
 refine kr 1 (kcX h1 (fun (s3 : Unit) => ([(2, .bool false)], [])) (fun y2 hy1 h2 => ?_) (fun s3 h3 => ?_))
 ·refine kq (kb 0 (kl (fun (s0 : Int × (List (St196 × Int))) => ([(2, .bool false), (3, .mp 0), (7, lR x0), (8, iL (x0.length : Int)), (9, iL s0.1)], [.map (mapL (fun k : St196 => .agg (encSt196 k)) (fun k : Int => iL k) s0.2)])) hy1 [2, 3, 7, 8, 9] (fun s0 x407 hs0 => kq (kS (kBT 10 hs0 (fun h4 => ?_) (fun h5 => ?_))))))
  ·refine kKN (kcX h4 (fun (s2 : (List (St196 × Int))) => ([(2, .bool false), (3, .mp 0), (7, lR x0), (8, iL (x0.length : Int)), (9, iL s0.1)], [.map (mapL (fun k : St196 => .agg (encSt196 k)) (fun k : Int => iL k) s2)])) (fun y3 hy2 h6 => ?_) (fun s2 h7 => ?_))
   ·refine kb 1 (kSR (kIb 11 (encI_len .i32) hy2 (fun h8 => kr 2 (kn 2 ?_))))
    obtain ⟨y0, hy3, h9⟩ := bindS h8
    exact RJ.callG (d := (some 15)) (f := 122) (args := [.mp 0, iM (nth x0 s0.1)]) (args0 := [.mp 0, iM (nth x0 s0.1)]) (v0 := iL y0.1) (v := iL y0.1) (tr2 := []) (H0 := [.map (mapL (fun k : St196 => .agg (encSt196 k)) (fun k : Int => iL k) s0.2)]) (H0' := [.map (mapL (fun k : St196 => .agg (encSt196 k)) (fun k : Int => iL k) y0.2)]) (H2 := [.map (mapL (fun k : St196 => .agg (encSt196 k)) (fun k : Int => iL k) y0.2)]) [0] (by kernel_rfl) (by kernel_rfl) (by kernel_rfl) (by simp only [List.map_cons, List.map_nil, rn_mapL (ek := (fun k : St196 => .agg (encSt196 k))) (ev := (fun k : Int => iL k)) (fun _ _ => rfl) (fun _ _ => rfl)]; kernel_rfl) (by decide) (by simp only [List.all_cons, List.all_nil, refs_mapL (ek := (fun k : St196 => .agg (encSt196 k))) (ev := (fun k : Int => iL k)) (fun _ _ => rfl) (fun _ _ => rfl)]; kernel_rfl) (by kernel_rfl) (by kernel_rfl) (.cons (Le.refl _) (.cons (Le.refl _) .nil)) (class_table__class_s0_ok hy3) (by kernel_rfl) (by kernel_rfl) ((show frameH (selF [0]) 1 _ [.map (mapL (fun k : St196 => .agg (encSt196 k)) (fun k : Int => iL k) y0.2)] = [Ent.rn (gOf (selF [0]) 1 1) (.map (mapL (fun k : St196 => .agg (encSt196 k)) (fun k : Int => iL k) y0.2))] by kernel_rfl).trans (by simp only [rn_mapL (ek := (fun k : St196 => .agg (encSt196 k))) (ev := (fun k : Int => iL k)) (fun _ _ => rfl) (fun _ _ => rfl)])) (kEN (kb 2 (kcN h9 (fun (s1 : Bool) => ([(2, .bool false), (3, .mp 0), (7, lR x0), (8, iL (x0.length : Int)), (9, iL s0.1), (16, .bool s1)], [.map (mapL (fun k : St196 => .agg (encSt196 k)) (fun k : Int => iL k) y0.2)])) (fun s1 hy4 => kq (kBT 16 hy4 (fun h11 => kK (kNo h11 [2, 3, 7, 8, 9, 16])) (fun h12 => kq (kBT 16 h12 (fun h13 => kK (kNo h13 [2, 3, 7, 8, 9, 16])) (fun h14 => kq (kBT 16 h14 (fun h15 => kK (kNo h15 [2, 3, 7, 8, 9, 16])) (fun h16 => kM (kNo h16 [2, 3, 7, 8, 9, 16])))))))) (fun s1 h10 => kBT 16 h10 (fun h17 => kKb (PJ.blockNormal (kXo h17 [2, 3, 7, 8, 9]))) (fun h18 => kq (kXb (PJ.blockRet (kCx h18 h6 (fun h19 => kLx h19 (fun h20 => PJ.blockRet (kCx h20 h2 (fun h21 => by obtain rfl := oi h21; exact kZ hFn hFH hFD))))))))))))
   ·exact kM (kLo h7 [2, 3, 7, 8, 9])
  ·exact kEp 0 (kLx h5 (fun h22 => PJ.blockOut (kXW h22 hFH hFD [])))
 ·exact kq (kX (by obtain rfl := oi h3; exact kZ hFn hFH hFD))
theorem mapRun_of {E X : Type} [DecidableEq X] (f : E → Option (Unit ⊕ X)) (hit : E → Bool) (v : X) : ∀ (ms : List E), (∀ e ∈ ms, f e = some (if hit e = true then .inr v else .inl ())) → mapRun f ms = some (if ms.any hit = true then .inr v else .inl ())
 | [], _ => rfl
 | e :: r, h => by
  have ih := mapRun_of f hit v r fun x hx => h x (List.mem_cons_of_mem _ hx)
  simp only [mapRun, h e (List.mem_cons_self ..), ih, List.any_cons]
  by_cases h0 : hit e = true
  ·by_cases h1 : r.any hit = true
   ·simp only [h0, h1, if_true, Bool.or_self]
   ·simp only [h0, h1, if_true, Bool.true_or, if_false, Bool.false_eq_true]
  ·have h0' : hit e = false := by simpa using h0
   simp only [h0', if_false, Bool.false_or, Bool.false_eq_true]
def rngs : List (St196 × Int) := [((⟨0, 31⟩ : St196), 1), ((⟨127, 159⟩ : St196), 1), ((⟨1564, 1564⟩ : St196), 2), ((⟨8206, 8207⟩ : St196), 2), ((⟨8234, 8238⟩ : St196), 2), ((⟨8294, 8297⟩ : St196), 2), ((⟨64976, 65007⟩ : St196), 3), ((⟨32, 32⟩ : St196), 4), ((⟨160, 160⟩ : St196), 4), ((⟨5760, 5760⟩ : St196), 4), ((⟨8192, 8202⟩ : St196), 4), ((⟨8232, 8233⟩ : St196), 4), ((⟨8239, 8239⟩ : St196), 4), ((⟨8287, 8287⟩ : St196), 4), ((⟨12288, 12288⟩ : St196), 4)]
def eqK (a b : St196) : Bool := (decide (a.a0_ = b.a0_)) && ((decide (a.a1_ = b.a1_)) && true)
def hitR (r : Int) (e : St196 × Int) : Bool := decide (e.1.a0_ ≤ r) && decide (r ≤ e.1.a1_)
def tab (r : Int) : Int := match rngs.find? (hitR r) with
 | some e => e.2
 | none => 0
theorem mget_same {ms : List (St196 × Int)} (h : ∀ a ∈ ms, ∀ b ∈ ms, eqK a.1 b.1 = true → b.2 = a.2) {e : St196 × Int} (he : e ∈ ms) : mget eqK ms e.1 = some e.2 := by
 have key : ∀ l : List (St196 × Int), (∀ b ∈ l, eqK e.1 b.1 = true → b.2 = e.2) → e ∈ l → mget eqK l e.1 = some e.2 := by
  intro l
  induction l with
  | nil => intro _ h; simp at h
  | cons b r ih =>
   intro hb hm
   simp only [mget]
   cases hq : eqK e.1 b.1 with
   | true => simp only [cond_true]; rw [hb b (List.mem_cons_self ..) hq]
   | false =>
    simp only [cond_false]
    refine ih (fun x hx => hb x (List.mem_cons_of_mem _ hx)) ?_
    rcases List.mem_cons.1 hm with rfl | hm
    ·exfalso; revert hq; unfold eqK; simp
    ·exact hm
 exact key ms (fun b hb => h e he b hb) he
theorem rngs_same : ∀ a ∈ rngs, ∀ b ∈ rngs, eqK a.1 b.1 = true → b.2 = a.2 := by decide +kernel
theorem rngs_apart : ∀ a ∈ rngs, ∀ b ∈ rngs, a = b ∨ a.1.a1_ < b.1.a0_ ∨ b.1.a1_ < a.1.a0_ := by decide +kernel
theorem tab_hit {r : Int} {e : St196 × Int} (he : e ∈ rngs) (hh : hitR r e = true) : tab r = e.2 := by
 unfold tab
 cases hf : rngs.find? (hitR r) with
 | none =>
  rw [List.find?_eq_none] at hf
  exact absurd hh (by simpa using hf e he)
 | some e' =>
  have h1 := List.find?_some hf
  have h0 := List.mem_of_find?_eq_some hf
  unfold hitR at h1 hh
  simp only [Bool.and_eq_true, decide_eq_true_eq] at h1 hh
  rcases rngs_apart e he e' h0 with h | h | h
  ·rw [h]
  ·omega
  ·omega
theorem table_any {r : Int} {ms : List (St196 × Int)} (hp : List.Perm ms rngs) : class_table__class_s0 r ms = Option.bind (utf_Is r) fun y => bif !y then some (6, ms) else bif decide (bits .and .i32 r 65534 = 65534) then some (3, ms) else bif rngs.any (hitR r) then some (tab r, ms) else Option.bind (class_Value r) fun y => bif y.2 then some (5, ms) else some (0, ms) := by
 unfold class_table__class_s0
 congr 1
 funext y
 cases y with
 | false => rfl
 | true =>
  simp only [Bool.not_true, cond_false]
  cases decide (bits .and .i32 r 65534 = 65534) with
  | true => rfl
  | false =>
   simp only [cond_false]
   have hsame : ∀ a ∈ ms, ∀ b ∈ ms, eqK a.1 b.1 = true → b.2 = a.2 := fun a ha b hb => rngs_same a (hp.mem_iff.1 ha) b (hp.mem_iff.1 hb)
   have hany : ms.any (hitR r) = rngs.any (hitR r) := by
    rw [Bool.eq_iff_iff]
    simp only [List.any_eq_true]
    exact ⟨fun ⟨x, hx, h⟩ => ⟨x, hp.mem_iff.1 hx, h⟩, fun ⟨x, hx, h⟩ => ⟨x, hp.mem_iff.2 hx, h⟩⟩
   rw [mapRun_of _ (hitR r) (.inr (tab r, ms)) ms (fun e he => ?_), hany]
   ·cases rngs.any (hitR r) <;> rfl
   ·have hg : (mget (fun a b : St196 => ((decide (a.a0_ = b.a0_)) && ((decide (a.a1_ = b.a1_)) && true))) ms e.1) = some e.2 := mget_same hsame he
    rw [hg]
    have ht : hitR r e = true → tab r = e.2 := fun h => tab_hit (hp.mem_iff.1 he) h
    unfold hitR at ht ⊢
    by_cases q1 : e.1.a0_ ≤ r
    ·rw [dT q1] at ht ⊢
     by_cases q2 : r ≤ e.1.a1_
     ·rw [dT q2] at ht ⊢
      simp only [cond_true, Option.bind_some, Bool.true_and, if_true, Option.getD_some]
      rw [ht rfl]
     ·rw [dF q2]; rfl
    ·rw [dF q1]; rfl
theorem tableP {x : Int} {ms : List (St196 × Int)} {r : Int × List (St196 × Int)} (hp : List.Perm ms rngs) (h : class_table__class_s0 x rngs = some r) : class_table__class_s0 x ms = some (r.1, ms) ∧ r.2 = rngs := by
 rw [table_any (List.Perm.refl _)] at h
 rw [table_any hp]
 obtain ⟨y, e, h⟩ := bindS h
 rw [e]
 simp only [Option.bind_some] at h ⊢
 cases y with
 | false => obtain rfl := oi h; exact ⟨rfl, rfl⟩
 | true =>
  simp only [Bool.not_true, cond_false] at h ⊢
  revert h
  cases decide (bits .and .i32 x 65534 = 65534) with
  | true => intro h; obtain rfl := oi h; exact ⟨rfl, rfl⟩
  | false =>
   simp only [cond_false]
   cases rngs.any (hitR x) with
   | true => intro h; obtain rfl := oi h; exact ⟨rfl, rfl⟩
   | false =>
    intro h
    simp only [cond_false] at h ⊢
    obtain ⟨v, e, h⟩ := bindS h
    rw [e]
    simp only [Option.bind_some]
    cases hv : v.2 with
    | true => rw [hv] at h; obtain rfl := oi h; exact ⟨rfl, rfl⟩
    | false => rw [hv] at h; obtain rfl := oi h; exact ⟨rfl, rfl⟩
theorem loopN_sim {S X : Type} {f : S → Option (S ⊕ X)} (R : S → S → Prop) (hs : ∀ s s' o, R s s' → f s = some o → (∃ a b, o = .inl a ∧ f s' = some (.inl b) ∧ R a b) ∨ ∃ x, o = .inr x ∧ f s' = some (.inr x)) : ∀ (n : Nat) (s s' : S) (r : X), R s s' → loopN f n s = some r → loopN f n s' = some r
 | 0, _, _, _, _, h => by cases h
 | n + 1, s, s', r, hR, h => by
  simp only [loopN] at h ⊢
  cases hf : f s with
  | none => rw [hf] at h; cases h
  | some o =>
   rw [hf] at h
   rcases hs s s' o hR hf with ⟨a, b, rfl, h0, h2⟩ | ⟨x, rfl, h0⟩
   ·rw [h0]; exact loopN_sim R hs n a b r h2 h
   ·rw [h0]; exact h
def class_Calm (x0 : List Int) : Option (Bool) :=
 (Option.bind class_ranges_s0 fun y1 => (fun (ms4 : List (St196 × Int)) => (Option.bind (loopN (fun (s0 : Int × (List (St196 × Int))) => (bif (decide (s0.1 < (x0.length : Int))) then (Option.bind (bif inR s0.1 x0.length then (Option.bind (class_table__class_s0 (nth x0 s0.1) s0.2) fun y0 => (Option.bind (bif (decide (y0.1 = 0)) then (some true) else (bif (decide (y0.1 = 4)) then (some true) else (bif (decide (y0.1 = 5)) then (some true) else (some (decide (y0.1 = 2)))))) fun (s1 : Bool) => (bif s1 then (some (.inl y0.2)) else (some (.inr (.inr (.inr false))))))) else none) (joinX fun (s2 : (List (St196 × Int))) => (some (.inl ((IntKind.wrap .i64 (s0.1 + 1)), s2))))) else (some (.inr (.inl ()))))) big (0, ms4)) (joinX fun (s3 : Unit) => (some true)))) y1)
theorem class_Calm_ok {x0 : List Int} {r : Bool} (h : class_Calm x0 = some r) : SC Tryz.prog 94 [lR x0] [] (.bool r) [] := class_CalmM_ok (by
 unfold class_Calm at h; unfold class_CalmM
 obtain ⟨y, hy, h⟩ := bindS h
 rw [hy]; simp only [Option.bind_some]
 obtain rfl : rngs = y := oi hy
 obtain ⟨u, hu, hr⟩ := bindS h
 refine anyOrd_of fun ms hp => ?_
 have hL := loopN_sim (fun a b => a.1 = b.1 ∧ List.Perm b.2 rngs ∧ a.2 = rngs) (fun s s' o hR hf => ?_) big (0, rngs) (0, ms) u ⟨rfl, hp, rfl⟩ hu
 ·show Option.bind (loopN _ big (0, ms)) _ = _
  rw [hL]; exact hr
 obtain ⟨i, a⟩ := s
 obtain ⟨j, b⟩ := s'
 obtain ⟨h1, h0, h2⟩ := hR
 simp only at h1 h0 h2 hf ⊢
 subst h1; subst h2
 cases hc : decide (i < (x0.length : Int)) with
 | false => rw [hc] at hf; obtain rfl := oi hf; right; exact ⟨_, rfl, rfl⟩
 | true =>
  rw [hc] at hf
  simp only [cond_true] at hf ⊢
  obtain ⟨s4, e1, hf⟩ := bindS hf
  cases hi : inR i x0.length with
  | false => rw [hi] at e1; cases e1
  | true =>
   rw [hi] at e1
   simp only [cond_true] at e1 ⊢
   obtain ⟨y2, e2, e1⟩ := bindS e1
   obtain ⟨t1, t2⟩ := tableP h0 e2
   rw [t1]; simp only [Option.bind_some]
   obtain ⟨c1, q1, e1⟩ := bindS e1
   rw [q1]; simp only [Option.bind_some]
   cases c1 with
   | true => obtain rfl := oi e1; obtain rfl := oi hf; left; exact ⟨_, _, rfl, rfl, rfl, h0, t2⟩
   | false => obtain rfl := oi e1; obtain rfl := oi hf; right; exact ⟨_, rfl, rfl⟩
 )
def class_Turns (x0 : List Int) : Option (Bool) :=
 (Option.bind (loopN (fun (s0 : Int × Int) => (bif (decide (s0.2 < (x0.length : Int))) then (Option.bind (bif inR s0.2 x0.length then (Option.bind (bif (decide (8234 ≤ (nth x0 s0.2))) then (some ((decide ((nth x0 s0.2) ≤ 8238)))) else (some false)) fun (s1 : Bool) => (bif s1 then (some (.inr (.inr (.inr false)))) else (Option.bind (bif (decide (8294 ≤ (nth x0 s0.2))) then (some ((decide ((nth x0 s0.2) ≤ 8296)))) else (some false)) fun (s2 : Bool) => (bif s2 then (some (.inl (IntKind.wrap .i64 (s0.1 + 1)))) else (Option.bind (bif (decide ((nth x0 s0.2) = 8297)) then (some (decide (s0.1 = 0))) else (some false)) fun (s3 : Bool) => (bif s3 then (some (.inr (.inr (.inr false)))) else (bif (decide ((nth x0 s0.2) = 8297)) then (some (.inl (IntKind.wrap .i64 (s0.1 - 1)))) else (some (.inl s0.1))))))))) else none) (joinX fun (s4 : Int) => (some (.inl (s4, (IntKind.wrap .i64 (s0.2 + 1))))))) else (some (.inr (.inl s0.1))))) big (0, 0)) (joinX fun (s5 : Int) => (some (decide (s5 = 0)))))
theorem class_Turns_ok {x0 : List Int} {r : Bool} (h : class_Turns x0 = some r) : SC Tryz.prog 95 [lR x0] [] (.bool r) [] := by
 refine kFn (fn := Tryz.f95) (fun F hFn hFH hFD => ?_)
 unfold class_Turns at h
 exact kq (kq (kcX h (fun (s5 : Int) => ([(2, .bool false), (3, iL s5)], [])) (fun y0 hy0 h0 => kq (kb 0 (kl (fun (s0 : Int × Int) => ([(2, .bool false), (3, iL s0.1), (6, lR x0), (7, iL (x0.length : Int)), (8, iL s0.2)], [])) hy0 [2, 3, 6, 7, 8] (fun s0 x601 hs0 => kq (kS (kBT 9 hs0 (fun h3 => kKN (kcX h3 (fun (s4 : Int) => ([(2, .bool false), (3, iL s4), (6, lR x0), (7, iL (x0.length : Int)), (8, iL s0.2)], [])) (fun y1 hy1 h1 => kb 1 (kSR (kIb 10 (encI_len .i32) hy1 (fun h6 => kr 2 (kb 2 (kcN h6 (fun (s1 : Bool) => ([(2, .bool false), (3, iL s0.1), (5, iM (nth x0 s0.2)), (6, lR x0), (7, iL (x0.length : Int)), (8, iL s0.2), (12, .bool s1)], [])) (fun s1 hy2 => km 3 (kB 15 hy2 (fun h8 => ke 4 (kNo h8 [2, 3, 5, 6, 7, 8, 12])) (fun h9 => ke 4 (kNo h9 [2, 3, 5, 6, 7, 8, 12])))) (fun s1 h7 => kBT 12 h7 (fun h10 => kq (kXb (PJ.blockRet (kCx h10 h1 (fun h12 => kLx h12 (fun h13 => PJ.blockRet (kCx h13 h0 (fun h14 => by obtain rfl := oi h14; exact kZ hFn hFH hFD)))))))) (fun h11 => kcN h11 (fun (s2 : Bool) => ([(2, .bool false), (3, iL s0.1), (5, iM (nth x0 s0.2)), (6, lR x0), (7, iL (x0.length : Int)), (8, iL s0.2), (19, .bool s2)], [])) (fun s2 hy3 => km 3 (kB 22 hy3 (fun h16 => ke 4 (kNo h16 [2, 3, 5, 6, 7, 8, 19])) (fun h17 => ke 4 (kNo h17 [2, 3, 5, 6, 7, 8, 19])))) (fun s2 h15 => kBT 19 h15 (fun h18 => kM (PJ.blockNormal (PJ.blockNormal (kXo h18 [2, 3, 6, 7, 8])))) (fun h19 => kcN h19 (fun (s3 : Bool) => ([(2, .bool false), (3, iL s0.1), (5, iM (nth x0 s0.2)), (6, lR x0), (7, iL (x0.length : Int)), (8, iL s0.2), (28, .bool s3)], [])) (fun s3 hy4 => km 3 (kB 31 hy4 (fun h21 => ke 4 (kNo h21 [2, 3, 5, 6, 7, 8, 28])) (fun h22 => ke 4 (kNo h22 [2, 3, 5, 6, 7, 8, 28])))) (fun s3 h20 => kBT 28 h20 (fun h23 => kq (kXb (PJ.blockRet (kCx h23 h1 (fun h25 => kLx h25 (fun h26 => PJ.blockRet (kCx h26 h0 (fun h27 => by obtain rfl := oi h27; exact kZ hFn hFH hFD)))))))) (fun h24 => kq (kBT 35 h24 (fun h28 => kM (PJ.blockNormal (PJ.blockNormal (kXo h28 [2, 3, 6, 7, 8])))) (fun h29 => kKb (PJ.blockNormal (kXo h29 [2, 3, 6, 7, 8])))))))))))))))) (fun s4 h5 => kM (kLo h5 [2, 3, 6, 7, 8])))) (fun h4 => kEp 0 (kLx h4 (fun h30 => PJ.blockOut (kXo h30 [2, 3])))))))))) (fun s5 h2 => kq (kX (by obtain rfl := oi h2; exact kZ hFn hFH hFD)))))
def sym_Calm (x0 : St22) (x1 : List Int) : Option (Bool) :=
 (Option.bind (loopN (fun (s0 : Int) => (bif (decide (s0 < (x1.length : Int))) then (Option.bind (bif inR s0 x1.length then (Option.bind (class_Value (nth x1 s0)) fun y0 => (Option.bind (bif y0.2 then (some true) else (Option.bind (sym_between x0 (nth x1 s0)) fun y1 => (some y1))) fun (s1 : Bool) => (bif s1 then (some (.inr (.inr (.inr false)))) else (some (.inl ()))))) else none) (joinX fun (s3 : Unit) => (some (.inl (IntKind.wrap .i64 (s0 + 1)))))) else (some (.inr (.inl ()))))) big 0) (joinX fun (s4 : Unit) => (Option.bind (Option.bind (class_Calm x1) fun y2 => (bif y2 then (Option.bind (class_Turns x1) fun y3 => (some y3)) else (some false))) fun (s2 : Bool) => (some s2))))
theorem sym_Calm_ok {x0 : St22} {x1 : List Int} {r : Bool} (h : sym_Calm x0 x1 = some r) : SC Tryz.prog 49 [.agg (encSt22 x0), lR x1] [] (.bool r) [] := by
 refine kFn (fn := Tryz.f49) (fun F hFn hFH hFD => ?_)
 unfold sym_Calm at h
 exact kq (kcX h (fun (s4 : Unit) => ([(1, lR x1), (4, .bool false)], [])) (fun y4 hy0 h0 => kq (kb 0 (kl (fun (s0 : Int) => ([(1, lR x1), (2, .ptr 0 0), (4, .bool false), (9, lR x1), (10, iL (x1.length : Int)), (11, iL s0)], [.box (encSt22 x0)])) hy0 [1, 2, 4, 9, 10, 11] (fun s0 x341 hs0 => kq (kS (kBT 12 hs0 (fun h2 => kKN (kcX h2 (fun (s3 : Unit) => ([(1, lR x1), (2, .ptr 0 0), (4, .bool false), (9, lR x1), (10, iL (x1.length : Int)), (11, iL s0)], [.box (encSt22 x0)])) (fun y5 hy1 h4 => kb 1 (kSR (kIb 13 (encI_len .i32) hy1 (fun h6 => kr 2 (kn 1 (kAb 17 h6 (fun _ => class_Value_ok) (fun y0 h7 => kr 5 (kcN h7 (fun (s1 : Bool) => ([(1, lR x1), (2, .ptr 0 0), (4, .bool false), (9, lR x1), (10, iL (x1.length : Int)), (11, iL s0), (25, .bool s1)], [.box (encSt22 x0)])) (fun s1 hy2 => km 2 (kB 21 hy2 (fun h9 => ke 4 (kNo h9 [1, 2, 4, 9, 10, 11, 25])) (fun h10 => kc 2 (kAb 24 h10 (fun _ => sym_between_ok) (fun y1 h11 => ke 1 (kNo h11 [1, 2, 4, 9, 10, 11, 25])))))) (fun s1 h8 => kBT 25 h8 (fun h12 => kq (kXb (kCx h12 h4 (fun h14 => kLx h14 (fun h15 => PJ.blockRet (kCx h15 h0 (fun h16 => by obtain rfl := oi h16; exact kZ hFn hFH hFD))))))) (fun h13 => kKb (kXo h13 [1, 2, 4, 9, 10, 11]))))))))))) (fun s3 h5 => kM (kLo h5 [1, 2, 4, 9, 10, 11])))) (fun h3 => kEp 0 (kLx h3 (fun h17 => PJ.blockOut (kXW h17 hFH hFD [])))))))))) (fun s4 h1 => kcN h1 (fun (s2 : Bool) => ([(4, .bool s2)], [])) (fun s2 hy3 => km 1 (kAb 28 hy3 (fun _ => class_Calm_ok) (fun y2 h19 => kc 1 (kB 29 h19 (fun h20 => kc 1 (kAb 31 h20 (fun _ => class_Turns_ok) (fun y3 h22 => ke 2 (kNo h22 [4])))) (fun h21 => ke 4 (kNo h21 [4])))))) (fun s2 h18 => kX (by obtain rfl := oi h18; exact kZ hFn hFH hFD))))
def affix_Calm (x0 : St22) (x1 : St63) : Option (Bool) :=
 (Option.bind (slices_Clone x1.Pre_) fun y0 => (bif room (y0.length + x1.Suf_.length) then (Option.bind (sym_Calm x0 (y0 ++ x1.Suf_)) fun y1 => (some y1)) else none))
theorem affix_Calm_ok {x0 : St22} {x1 : St63} {r : Bool} (h : affix_Calm x0 x1 = some r) : SC Tryz.prog 81 [.agg (encSt22 x0), .agg (encSt63 x1)] [] (.bool r) [] := by
 refine kFn (fn := Tryz.f81) (fun F hFn hFH hFD => ?_)
 unfold affix_Calm at h
 refine kq (kS (kDr (kD 3 ?_)))
 obtain ⟨y0, hy0, h0⟩ := bindS h
 refine RJ.callM (d := (some 8)) (f := 119) (args := [lR x1.Pre_]) (v0 := .vc 0) (v := .vc 2) (en0 := .vec y0.length 1 21 (y0.flatMap (encI .i32))) (tr2 := [([0, 1], []), ([], []), ([2, 3], []), ([], [4, 5, 4, 5])]) (H2 := [.box (encSt22 x0), .box (encSt63 x1), vecL (encI .i32) 1 21 y0, .res, .res]) 2 (by kernel_rfl) (by kernel_rfl) (by kernel_rfl) (by kernel_rfl) (.cons (Le.refl _) .nil) (slices_Clone_ok_o hy0) (by kernel_rfl) (by kernel_rfl) (kD 2 ?_)
 obtain ⟨hm, h1⟩ := asrt h0
 refine RJ.rel (d := (some 11)) (ef := ⟨.vc 3, [2], [(2, .gone), (3, .vec (y0.length + x1.Suf_.length) 1 21 (y0.flatMap (encI .i32) ++ x1.Suf_.flatMap (encI .i32)))]⟩) (ef' := ⟨.vc 3, [2], [(2, .gone), (3, vecL (encI .i32) 1 21 (y0 ++ x1.Suf_))]⟩) (c := room (y0.length + x1.Suf_.length)) (tr2 := [([0, 1], []), ([], []), ([2, 3], []), ([], [4, 5, 4, 5]), ([], []), ([2, 3], []), ([4, 5], [4, 5, 6, 7, 6, 7])]) (H2 := [.box (encSt22 x0), .box (encSt63 x1), .gone, vecL (encI .i32) 1 21 (y0 ++ x1.Suf_), .res]) (by kernel_rfl) hm (fun hc => N.app) (by kernel_rfl) ?_
 obtain ⟨y1, hy1, h2⟩ := bindS h1
 exact RJ.callL (d := (some 12)) (f := 49) (args := [.agg (encSt22 x0), .vc 3]) (args0 := [.agg (encSt22 x0), .vc 0]) (args1 := [.agg (encSt22 x0), lR (y0 ++ x1.Suf_)]) (H0 := [vecL (encI .i32) 1 21 (y0 ++ x1.Suf_)]) (v := .bool y1) (tr2 := [([0, 1], []), ([], []), ([2, 3], []), ([], [4, 5, 4, 5]), ([], []), ([2, 3], []), ([4, 5], [4, 5, 6, 7, 6, 7]), ([6, 7], [8, 9])]) [3] (by kernel_rfl) (by kernel_rfl) (by kernel_rfl) (by kernel_rfl) (by decide) (by kernel_rfl) (by kernel_rfl) (by kernel_rfl) (by kernel_rfl) (.cons (Le.refl _) (.cons (Le.refl _) .nil)) (sym_Calm_ok hy1) (by kernel_rfl) (by kernel_rfl) (kD 1 (kEN (kX (by obtain rfl := oi h2; exact kZ hFn hFH hFD))))
def slices_Equal (x0 x1 : List Int) : Option (Bool) :=
 (bif (decide (¬ (x0.length : Int) = (x1.length : Int))) then (some false) else (Option.bind (loopN (fun (s0 : Int) => (bif (decide (s0 < (x0.length : Int))) then (bif inR s0 x0.length then (bif inR s0 x1.length then (bif (decide (¬ (nth x0 s0) = (nth x1 s0))) then (some (.inr (.inr false))) else (some (.inl (IntKind.wrap .i64 (s0 + 1))))) else none) else none) else (some (.inr (.inl ()))))) big 0) (joinX fun (s1 : Unit) => (some true))))
theorem slices_Equal_ok {x0 x1 : List Int} {r : Bool} (h : slices_Equal x0 x1 = some r) : SC Tryz.prog 120 [lR x0, lR x1] [] (.bool r) [] := by
 refine kFn (fn := Tryz.f120) (fun F hFn hFH hFD => ?_)
 unfold slices_Equal at h
 refine kq (kS (kq (kBT 10 h (fun h0 => ?_) (fun h1 => ?_))))
 ·exact kq (kX (PJ.passRet (by obtain rfl := oi h0; exact kZ hFn hFH hFD)))
 ·refine kKN (kcX h1 (fun (s1 : Unit) => ([(4, .bool false)], [])) (fun y0 hy0 h2 => ?_) (fun s1 h3 => ?_))
  ·refine kq (kb 0 (kl (fun (s0 : Int) => ([(0, lR x0), (1, lR x1), (4, .bool false), (12, iL (x0.length : Int)), (13, iL s0)], [])) hy0 [0, 1, 4, 12, 13] (fun s0 x79 hs0 => kq (kS (kBT 14 hs0 (fun h4 => ?_) (fun h5 => ?_))))))
   ·refine kKN (kS (kb 1 (kq (kS (kDr (kD 2 ?_))))))
    obtain ⟨hm, h6⟩ := asrt h4
    refine kJ 18 (tr2 := [([], []), ([], []), ([], [])]) (encI_len .i32) hm (kD 3 ?_)
    obtain ⟨hm, h7⟩ := asrt h6
    exact kJ 22 (tr2 := [([], []), ([], []), ([], []), ([], []), ([], []), ([], []), ([], [])]) (encI_len .i32) hm (kD 2 (kEN (kBT 24 h7 (fun h8 => kq (kXp (kLx h8 (fun h10 => PJ.blockRet (kCx h10 h2 (fun h11 => by obtain rfl := oi h11; exact kZ hFn hFH hFD)))))) (fun h9 => kKn (kM (kLo h9 [0, 1, 4, 12, 13]))))))
   ·exact kEp 0 (kLx h5 (fun h12 => PJ.blockOut (kXo h12 [4])))
  ·exact kq (kX (by obtain rfl := oi h3; exact kZ hFn hFH hFD))
def affix_Same (x0 x1 : St63) : Option (Bool) :=
 (Option.bind (Option.bind (slices_Equal x0.Pre_ x1.Pre_) fun y0 => (bif y0 then (Option.bind (slices_Equal x0.Suf_ x1.Suf_) fun y1 => (some y1)) else (some false))) fun (s0 : Bool) => (some s0))
theorem affix_Same_ok {x0 x1 : St63} {r : Bool} (h : affix_Same x0 x1 = some r) : SC Tryz.prog 82 [.agg (encSt63 x0), .agg (encSt63 x1)] [] (.bool r) [] := by
 refine kFn (fn := Tryz.f82) (fun F hFn hFH hFD => ?_)
 unfold affix_Same at h
 exact kq (kcN h (fun (s0 : Bool) => ([(4, .bool s0)], [])) (fun s0 hy0 => km 4 (kAb 9 hy0 (fun _ => slices_Equal_ok) (fun y0 h1 => kc 1 (kB 10 h1 (fun h2 => kc 4 (kAb 15 h2 (fun _ => slices_Equal_ok) (fun y1 h4 => ke 2 (kNW h4 hFH hFD [])))) (fun h3 => ke 7 (kNW h3 hFH hFD [])))))) (fun s0 h0 => kX (by obtain rfl := oi h0; exact kZ hFn hFH hFD)))
def loc_toldApart (x0 : St22) (x1 : St32) (x2 : List Int) : Option (Bool) :=
 (Option.bind (loc_around x0 x1 x2) fun y0 => (Option.bind (loopN (fun (s0 : Int) => (bif (decide (s0 < 3)) then (bif (decide (s0 = 0)) then (Option.bind (affix_Calm x0 y0.a0_) fun y1 => (bif (!y1) then (some (.inr (.inr false))) else (some (.inl (IntKind.wrap .i64 (0 + 1)))))) else (bif (decide (s0 = 1)) then (Option.bind (affix_Calm x0 y0.a1_) fun y2 => (bif (!y2) then (some (.inr (.inr false))) else (some (.inl (IntKind.wrap .i64 (1 + 1)))))) else (bif (decide (s0 = 2)) then (Option.bind (affix_Calm x0 y0.a2_) fun y3 => (bif (!y3) then (some (.inr (.inr false))) else (some (.inl (IntKind.wrap .i64 (2 + 1)))))) else none))) else (some (.inr (.inl ()))))) big 0) (joinX fun (s2 : Unit) => (Option.bind (Option.bind (affix_Same y0.a0_ y0.a1_) fun y4 => (bif (!y4) then (Option.bind (affix_Same y0.a1_ y0.a2_) fun y5 => (some (!y5))) else (some false))) fun (s1 : Bool) => (some s1)))))
theorem loc_toldApart_ok {x0 : St22} {x1 : St32} {x2 : List Int} {r : Bool} (h : loc_toldApart x0 x1 x2 = some r) : SC Tryz.prog 40 [.agg (encSt22 x0), .agg (encSt32 x1), lR x2] [] (.bool r) [] := by
 refine kFn (fn := Tryz.f40) (fun F hFn hFH hFD => ?_)
 unfold loc_toldApart at h
 refine kq (kn 3 (kAb 13 h (fun _ => loc_around_ok) (fun y0 h4 => kr 2 (kcX h4 (fun (s2 : Unit) => ([(6, .bool false), (7, .ptr 0 0)], [.box (encSt124 y0)])) (fun y6 hy0 h0 => ?_) (fun s2 h5 => ?_)))))
 ·refine kq (kb 0 (J.wk (Wk.sel (L2 := [(3, .ptr 0 0), (6, .bool false), (7, .ptr 1 0), (14, .agg (encSt124 y0)), (15, iL 0)]) (H2 := [.box (encSt22 x0), .box (encSt124 y0)]) 0 (by rw [hFH]; rfl) hFD [0, 2] (by kernel_rfl) (by kernel_rfl) (by decide) (by kernel_rfl) (by kernel_rfl) (by kernel_rfl) (by kernel_rfl)) (kl (fun (s0 : Int) => ([(3, .ptr 0 0), (6, .bool false), (7, .ptr 1 0), (14, .agg (encSt124 y0)), (15, iL s0)], [.box (encSt22 x0), .box (encSt124 y0)])) hy0 [3, 6, 7, 14, 15] (fun s0 x165 hs0 => kq (kS (kBT 16 hs0 (fun h1 => ?_) (fun h6 => ?_)))))))
  ·refine kKN (kS (kb 1 (kSR ?_)))
   cases hb0 : (decide (s0 = 0))
   ·have h2 := condF hb0 h1
    cases hb1 : (decide (s0 = 1))
    ·have h3 := condF hb1 h2
     cases hb2 : (decide (s0 = 2))
     ·have h7 := condF hb2 h3
      cases h7
     ·have h8 := condT hb2 h3
      exact RJ.pin 15 (kd := .i64) (by kernel_rfl) (of_decide_eq_true hb2) (kr 3 (kn 2 (kAb 20 h8 (fun _ => affix_Calm_ok) (fun y3 h9 => kr 1 (kBT 21 h9 (fun h10 => kq (kXp (kLx h10 (fun h12 => PJ.blockRet (kCx h12 h0 (fun h13 => by obtain rfl := oi h13; exact kZ hFn hFH hFD)))))) (fun h11 => kKn (kM (kLW h11 hFH hFD [0, 1]))))))))
    ·have h14 := condT hb1 h2
     exact RJ.pin 15 (kd := .i64) (by kernel_rfl) (of_decide_eq_true hb1) (kr 3 (kn 2 (kAb 20 h14 (fun _ => affix_Calm_ok) (fun y2 h15 => kr 1 (kBT 21 h15 (fun h16 => kq (kXp (kLx h16 (fun h18 => PJ.blockRet (kCx h18 h0 (fun h19 => by obtain rfl := oi h19; exact kZ hFn hFH hFD)))))) (fun h17 => kKn (kM (kLW h17 hFH hFD [0, 1]))))))))
   ·have h20 := condT hb0 h1
    exact RJ.pin 15 (kd := .i64) (by kernel_rfl) (of_decide_eq_true hb0) (kr 3 (kn 2 (kAb 20 h20 (fun _ => affix_Calm_ok) (fun y1 h21 => kr 1 (kBT 21 h21 (fun h22 => kq (kXp (kLx h22 (fun h24 => PJ.blockRet (kCx h24 h0 (fun h25 => by obtain rfl := oi h25; exact kZ hFn hFH hFD)))))) (fun h23 => kKn (kM (kLW h23 hFH hFD [0, 1]))))))))
  ·exact kEp 0 (kLx h6 (fun h26 => PJ.blockOut (kXW h26 hFH hFD [1])))
 ·exact kcN h5 (fun (s1 : Bool) => ([(6, .bool s1)], [])) (fun s1 hy1 => km 4 (kAb 27 hy1 (fun _ => affix_Same_ok) (fun y4 h28 => kc 2 (kB 29 h28 (fun h29 => kc 4 (kAb 34 h29 (fun _ => affix_Same_ok) (fun y5 h31 => ke 3 (kNW h31 hFH hFD [])))) (fun h30 => ke 8 (kNW h30 hFH hFD [])))))) (fun s1 h27 => kX (by obtain rfl := oi h27; exact kZ hFn hFH hFD))
noncomputable def class_OfM (x0 : Int) : Option (Int) :=
 (Option.bind class_ranges_s0 fun y1 => anyOrd (fun (ms4 : List (St196 × Int)) => (Option.bind (class_table__class_s0 x0 ms4) fun y0 => (some y0.1))) y1)
theorem class_OfM_ok {x0 r : Int} (h : class_OfM x0 = some r) : SC Tryz.prog 83 [iM x0] [] (iL r) [] := by
 refine kFn (fn := Tryz.f83) (fun F hFn hFH hFD => ?_)
 unfold class_OfM at h
 refine kq (kSR ?_)
 obtain ⟨y1, hy0, h0⟩ := bindS h
 refine RJ.callG (d := (some 3)) (f := 121) (args := []) (args0 := []) (v0 := .mp 0) (v := .mp 0) (tr2 := []) (H0 := []) (H0' := [.pmap (mapL (fun k : St196 => .agg (encSt196 k)) (fun k : Int => iL k) y1)]) (H2 := [.pmap (mapL (fun k : St196 => .agg (encSt196 k)) (fun k : Int => iL k) y1)]) [] (by kernel_rfl) (by kernel_rfl) (by kernel_rfl) (by kernel_rfl) (by decide) (by kernel_rfl) (by kernel_rfl) (by kernel_rfl) .nil (class_ranges_s0_ok hy0) (by kernel_rfl) (by kernel_rfl) ((show frameH (selF []) 0 _ [.pmap (mapL (fun k : St196 => .agg (encSt196 k)) (fun k : Int => iL k) y1)] = [Ent.rn (gOf (selF []) 0 0) (.pmap (mapL (fun k : St196 => .agg (encSt196 k)) (fun k : Int => iL k) y1))] by kernel_rfl).trans (by simp only [rn_pmapL (ek := (fun k : St196 => .agg (encSt196 k))) (ev := (fun k : Int => iL k)) (fun _ _ => rfl) (fun _ _ => rfl)])) (RJ.openMap (ek := (fun k : St196 => .agg (encSt196 k))) (ev := (fun k : Int => iL k)) y1 0 (fun ms4 => [.map (mapL (fun k : St196 => .agg (encSt196 k)) (fun k : Int => iL k) ms4)]) (by kernel_rfl) (fun _ => by kernel_rfl) (fun ms4 hp5 => ?_))
 have h1 := anyOrd_all h0 ms4 hp5
 refine kc 1 ?_
 obtain ⟨y0, hy1, h2⟩ := bindS h1
 exact RJ.callG (d := (some 5)) (f := 122) (args := [.mp 0, iM x0]) (args0 := [.mp 0, iM x0]) (v0 := iL y0.1) (v := iL y0.1) (tr2 := []) (H0 := [.map (mapL (fun k : St196 => .agg (encSt196 k)) (fun k : Int => iL k) ms4)]) (H0' := [.map (mapL (fun k : St196 => .agg (encSt196 k)) (fun k : Int => iL k) y0.2)]) (H2 := [.map (mapL (fun k : St196 => .agg (encSt196 k)) (fun k : Int => iL k) y0.2)]) [0] (by kernel_rfl) (by kernel_rfl) (by kernel_rfl) (by simp only [List.map_cons, List.map_nil, rn_mapL (ek := (fun k : St196 => .agg (encSt196 k))) (ev := (fun k : Int => iL k)) (fun _ _ => rfl) (fun _ _ => rfl)]; kernel_rfl) (by decide) (by simp only [List.all_cons, List.all_nil, refs_mapL (ek := (fun k : St196 => .agg (encSt196 k))) (ev := (fun k : Int => iL k)) (fun _ _ => rfl) (fun _ _ => rfl)]; kernel_rfl) (by kernel_rfl) (by kernel_rfl) (.cons (Le.refl _) (.cons (Le.refl _) .nil)) (class_table__class_s0_ok hy1) (by kernel_rfl) (by kernel_rfl) ((show frameH (selF [0]) 1 _ [.map (mapL (fun k : St196 => .agg (encSt196 k)) (fun k : Int => iL k) y0.2)] = [Ent.rn (gOf (selF [0]) 1 1) (.map (mapL (fun k : St196 => .agg (encSt196 k)) (fun k : Int => iL k) y0.2))] by kernel_rfl).trans (by simp only [rn_mapL (ek := (fun k : St196 => .agg (encSt196 k))) (ev := (fun k : Int => iL k)) (fun _ _ => rfl) (fun _ _ => rfl)])) (kr 1 (kX (by obtain rfl := oi h2; exact kZ hFn hFH hFD)))
def class_Of (x0 : Int) : Option (Int) :=
 (Option.bind class_ranges_s0 fun y0 => (fun (ms4 : List (St196 × Int)) => (Option.bind (class_table__class_s0 x0 ms4) fun y1 => (some y1.1))) y0)
theorem class_Of_ok {x0 r : Int} (h : class_Of x0 = some r) : SC Tryz.prog 83 [iM x0] [] (iL r) [] := class_OfM_ok (by
 unfold class_Of at h; unfold class_OfM
 obtain ⟨y, hy, h⟩ := bindS h
 rw [hy]; simp only [Option.bind_some]
 obtain rfl : rngs = y := oi hy
 obtain ⟨y2, e0, h⟩ := bindS h
 exact anyOrd_of fun ms hp => by
  show Option.bind (class_table__class_s0 x0 ms) _ = _
  rw [(tableP hp e0).1]; exact h
 )
def sym_Value (x0 : St22) (x1 : Int) : Option (Int × Bool) :=
 (Option.bind (Option.bind (bif (decide (((IntKind.wrap .i64 ((IntKind.wrap .i64 x1) - (IntKind.wrap .i64 x0.Zero_)))) < 0)) then (some true) else (some ((decide (((IntKind.wrap .i64 ((IntKind.wrap .i64 x1) - (IntKind.wrap .i64 x0.Zero_)))) > 9))))) fun (s0 : Bool) => (bif s0 then (some (.inr (0, false))) else (some (.inl ())))) (joinX fun (s1 : Unit) => (some ((IntKind.wrap .u8 ((IntKind.wrap .i64 ((IntKind.wrap .i64 x1) - (IntKind.wrap .i64 x0.Zero_))))), true))))
theorem sym_Value_ok {x0 : St22} {x1 : Int} {r : Int × Bool} (h : sym_Value x0 x1 = some r) : SC Tryz.prog 123 [.agg (encSt22 x0), iM x1] [] (.tup [.int .u8 r.1, .bool r.2]) [] := by
 refine kFn (fn := Tryz.f123) (fun F hFn hFH hFD => ?_)
 unfold sym_Value at h
 exact kq (kq (kcX h (fun (s1 : Unit) => ([(4, .int .u8 0), (5, .bool false), (6, iL ((IntKind.wrap .i64 ((IntKind.wrap .i64 x1) - (IntKind.wrap .i64 x0.Zero_)))))], [])) (fun y0 hy0 h0 => kcN hy0 (fun (s0 : Bool) => ([(4, .int .u8 0), (5, .bool false), (6, iL ((IntKind.wrap .i64 ((IntKind.wrap .i64 x1) - (IntKind.wrap .i64 x0.Zero_))))), (18, .bool s0)], [])) (fun s0 hy1 => km 3 (kB 15 hy1 (fun h3 => ke 3 (kNW h3 hFH hFD [])) (fun h4 => ke 3 (kNW h4 hFH hFD [])))) (fun s0 h2 => kBT 18 h2 (fun h5 => kq (kX (kCx h5 h0 (fun h7 => by obtain rfl := oi h7; exact kZ hFn hFH hFD)))) (fun h6 => kK (kXo h6 [4, 5, 6])))) (fun s1 h1 => kq (kX (by obtain rfl := oi h1; exact kZ hFn hFH hFD)))))
def sym_InNumber (x0 : St22) (x1 : Int) : Option (Bool) :=
 (Option.bind (sym_Value x0 x1) fun y0 => (Option.bind (bif y0.2 then (some true) else (Option.bind (sym_between x0 x1) fun y1 => (some y1))) fun (s0 : Bool) => (some s0)))
theorem sym_InNumber_ok {x0 : St22} {x1 : Int} {r : Bool} (h : sym_InNumber x0 x1 = some r) : SC Tryz.prog 84 [.agg (encSt22 x0), iM x1] [] (.bool r) [] := by
 refine kFn (fn := Tryz.f84) (fun F hFn hFH hFD => ?_)
 unfold sym_InNumber at h
 exact kq (kn 2 (kAb 10 h (fun _ => sym_Value_ok) (fun y0 h0 => kr 5 (kcN h0 (fun (s0 : Bool) => ([(4, .bool s0)], [])) (fun s0 hy0 => km 2 (kB 14 hy0 (fun h2 => ke 5 (kNW h2 hFH hFD [])) (fun h3 => kc 2 (kAb 17 h3 (fun _ => sym_between_ok) (fun y1 h4 => ke 2 (kNW h4 hFH hFD [])))))) (fun s0 h1 => kX (by obtain rfl := oi h1; exact kZ hFn hFH hFD))))))
def slices_Index (x0 : List Int) (x1 : Int) : Option (Int) :=
 (Option.bind (loopN (fun (s0 : Int) => (bif (decide (s0 < (x0.length : Int))) then (bif inR s0 x0.length then (bif (decide (x1 = (nth x0 s0))) then (some (.inr (.inr s0))) else (some (.inl (IntKind.wrap .i64 (s0 + 1))))) else none) else (some (.inr (.inl ()))))) big 0) (joinX fun (s1 : Unit) => (some (-1))))
theorem slices_Index_ok {x0 : List Int} {x1 r : Int} (h : slices_Index x0 x1 = some r) : SC Tryz.prog 96 [lR x0, iM x1] [] (iL r) [] := by
 refine kFn (fn := Tryz.f96) (fun F hFn hFH hFD => ?_)
 unfold slices_Index at h
 exact kq (kcX h (fun (s1 : Unit) => ([(4, iL 0)], [])) (fun y0 hy0 h0 => kq (kb 0 (kl (fun (s0 : Int) => ([(0, lR x0), (1, iM x1), (4, iL 0), (7, iL (x0.length : Int)), (8, iL s0)], [])) hy0 [0, 1, 4, 7, 8] (fun s0 x71 hs0 => kq (kS (kBT 9 hs0 (fun h2 => kKN (kS (kb 1 (kq (kn 3 (kIb 14 (encI_len .i32) h2 (fun h4 => kr 2 (kBT 16 h4 (fun h5 => kq (kXp (kLx h5 (fun h7 => PJ.blockRet (kCx h7 h0 (fun h8 => by obtain rfl := oi h8; exact kZ hFn hFH hFD)))))) (fun h6 => kKn (kM (kLo h6 [0, 1, 4, 7, 8]))))))))))) (fun h3 => kEp 0 (kLx h3 (fun h9 => PJ.blockOut (kXo h9 [4])))))))))) (fun s1 h1 => kq (kX (by obtain rfl := oi h1; exact kZ hFn hFH hFD))))
def slices_Contains (x0 : List Int) (x1 : Int) : Option (Bool) :=
 (Option.bind (slices_Index x0 x1) fun y0 => (some (decide (y0 ≥ 0))))
theorem slices_Contains_ok {x0 : List Int} {x1 : Int} {r : Bool} (h : slices_Contains x0 x1 = some r) : SC Tryz.prog 50 [lR x0, iM x1] [] (.bool r) [] := by
 refine kFn (fn := Tryz.f50) (fun F hFn hFH hFD => ?_)
 unfold slices_Contains at h
 exact kq (kn 2 (kAb 7 h (fun _ => slices_Index_ok) (fun y0 h0 => kr 2 (kX (by obtain rfl := oi h0; exact kZ hFn hFH hFD)))))
def loc_padded (x0 : St22) (x1 : St32) : Option (Bool) :=
 (bif (decide (x1.PadAt_ = 0)) then (some true) else (Option.bind (class_Of x1.Pad_) fun y1 => (Option.bind (Option.bind (bif (decide (¬ y1 = 0)) then (bif (decide (¬ y1 = 4)) then (some true) else (Option.bind (sym_InNumber x0 x1.Pad_) fun y2 => (some y2))) else (Option.bind (sym_InNumber x0 x1.Pad_) fun y3 => (some y3))) fun (s1 : Bool) => (bif s1 then (some (.inr false)) else (some (.inl ())))) (joinX fun (s6 : Unit) => (Option.bind (Option.bind (loc_around x0 x1 ([] : List Int)) fun y0 => (loopN (fun (s0 : Int) => (bif (decide (s0 < 3)) then (Option.bind (bif (decide (s0 = 0)) then (Option.bind (Option.bind (slices_Contains y0.a0_.Pre_ x1.Pad_) fun y4 => (bif y4 then (some true) else (Option.bind (slices_Contains y0.a0_.Suf_ x1.Pad_) fun y5 => (some y5)))) fun (s2 : Bool) => (bif s2 then (some (.inr (.inr (.inr false)))) else (some (.inl 0)))) else (bif (decide (s0 = 1)) then (Option.bind (Option.bind (slices_Contains y0.a1_.Pre_ x1.Pad_) fun y6 => (bif y6 then (some true) else (Option.bind (slices_Contains y0.a1_.Suf_ x1.Pad_) fun y7 => (some y7)))) fun (s3 : Bool) => (bif s3 then (some (.inr (.inr (.inr false)))) else (some (.inl 1)))) else (bif (decide (s0 = 2)) then (Option.bind (Option.bind (slices_Contains y0.a2_.Pre_ x1.Pad_) fun y8 => (bif y8 then (some true) else (Option.bind (slices_Contains y0.a2_.Suf_ x1.Pad_) fun y9 => (some y9)))) fun (s4 : Bool) => (bif s4 then (some (.inr (.inr (.inr false)))) else (some (.inl 2)))) else none))) (joinX fun (s5 : Int) => (some (.inl (IntKind.wrap .i64 (s5 + 1)))))) else (some (.inr (.inl ()))))) big 0)) (joinX fun (s7 : Unit) => (some true)))))))
theorem loc_padded_ok {x0 : St22} {x1 : St32} {r : Bool} (h : loc_padded x0 x1 = some r) : SC Tryz.prog 41 [.agg (encSt22 x0), .agg (encSt32 x1)] [] (.bool r) [] := by
 refine kFn (fn := Tryz.f41) (fun F hFn hFH hFD => ?_)
 unfold loc_padded at h
 refine kq (kS (kq (kBT 10 h (fun h4 => ?_) (fun h5 => ?_))))
 ·exact kq (kX (PJ.passRet (by obtain rfl := oi h4; exact kZ hFn hFH hFD)))
 ·refine kKN (kn 2 (kAb 13 h5 (fun _ => class_Of_ok) (fun y1 h6 => kr 1 (kcX h6 (fun (s6 : Unit) => ([(2, .ptr 0 0), (3, .ptr 1 0), (4, .bool false)], [.box (encSt22 x0), .box (encSt32 x1)])) (fun y10 hy1 h7 => ?_) (fun s6 h8 => ?_)))))
  ·exact kcN hy1 (fun (s1 : Bool) => ([(2, .ptr 0 0), (3, .ptr 1 0), (4, .bool false), (25, .bool s1)], [.box (encSt22 x0), .box (encSt32 x1)])) (fun s1 hy2 => km 3 (kB 16 hy2 (fun h10 => kc 4 (kB 20 h10 (fun h12 => ke 5 (kNo h12 [2, 3, 4, 25])) (fun h13 => kc 3 (kAb 24 h13 (fun _ => sym_InNumber_ok) (fun y2 h14 => ke 1 (kNo h14 [2, 3, 4, 25])))))) (fun h11 => kc 7 (kAb 24 h11 (fun _ => sym_InNumber_ok) (fun y3 h15 => ke 1 (kNo h15 [2, 3, 4, 25])))))) (fun s1 h9 => kBT 25 h9 (fun h16 => kq (kX (kCx h16 h7 (fun h18 => by obtain rfl := oi h18; exact kZ hFn hFH hFD)))) (fun h17 => kK (kXo h17 [2, 3, 4])))
  ·refine kcX h8 (fun (s7 : Unit) => ([(4, .bool false)], [])) (fun y11 hy3 h0 => ?_) (fun s7 h19 => ?_)
   ·refine kn 2 ?_
    obtain ⟨y0, hy4, h20⟩ := bindS hy3
    refine RJ.call0 (d := (some 28)) (f := 80) (args := [.agg (encSt22 x0), .agg (encSt32 x1), .nl]) (v := .agg (encSt124 y0)) (tr2 := []) (by kernel_rfl) (by kernel_rfl) (.cons (Le.refl _) (.cons (Le.refl _) (.cons (Le.nl _) .nil))) (loc_around_ok hy4) (by kernel_rfl) (kr 1 (kb 0 (J.wk (Wk.sel (L2 := [(3, .ptr 0 0), (4, .bool false), (28, .agg (encSt124 y0)), (29, iL 0)]) (H2 := [.box (encSt32 x1)]) 0 (by rw [hFH]; rfl) hFD [1] (by kernel_rfl) (by kernel_rfl) (by decide) (by kernel_rfl) (by kernel_rfl) (by kernel_rfl) (by kernel_rfl)) (kl (fun (s0 : Int) => ([(3, .ptr 0 0), (4, .bool false), (28, .agg (encSt124 y0)), (29, iL s0)], [.box (encSt32 x1)])) h20 [3, 4, 28, 29] (fun s0 x858 hs0 => kq (kS (kBT 30 hs0 (fun h21 => ?_) (fun h22 => ?_))))))))
    ·refine kKN (kcX h21 (fun (s5 : Int) => ([(3, .ptr 0 0), (4, .bool false), (28, .agg (encSt124 y0)), (29, iL s5)], [.box (encSt32 x1)])) (fun y12 hy0 h1 => ?_) (fun s5 h23 => ?_))
     ·refine kb 1 (kSR ?_)
      cases hb0 : (decide (s0 = 0))
      ·have h2 := condF hb0 hy0
       cases hb1 : (decide (s0 = 1))
       ·have h3 := condF hb1 h2
        cases hb2 : (decide (s0 = 2))
        ·have h24 := condF hb2 h3
         cases h24
        ·have h25 := condT hb2 h3
         exact RJ.pin 29 (kd := .i64) (by kernel_rfl) (of_decide_eq_true hb2) (kr 3 (kcN h25 (fun (s4 : Bool) => ([(3, .ptr 0 0), (4, .bool false), (28, .agg (encSt124 y0)), (29, iL 2), (43, .bool s4)], [.box (encSt32 x1)])) (fun s4 hy5 => km 4 (kAb 36 hy5 (fun _ => slices_Contains_ok) (fun y8 h27 => kc 1 (kB 37 h27 (fun h28 => ke 6 (kNW h28 hFH hFD [0])) (fun h29 => kc 4 (kAb 42 h29 (fun _ => slices_Contains_ok) (fun y9 h30 => ke 1 (kNW h30 hFH hFD [0])))))))) (fun s4 h26 => kBT 43 h26 (fun h31 => kq (kXb (kCx h31 h1 (fun h33 => kLx h33 (fun h34 => PJ.blockRet (kCx h34 h0 (fun h35 => by obtain rfl := oi h35; exact kZ hFn hFH hFD))))))) (fun h32 => kKb (kXo h32 [3, 4, 28, 29])))))
       ·have h36 := condT hb1 h2
        exact RJ.pin 29 (kd := .i64) (by kernel_rfl) (of_decide_eq_true hb1) (kr 3 (kcN h36 (fun (s3 : Bool) => ([(3, .ptr 0 0), (4, .bool false), (28, .agg (encSt124 y0)), (29, iL 1), (43, .bool s3)], [.box (encSt32 x1)])) (fun s3 hy6 => km 4 (kAb 36 hy6 (fun _ => slices_Contains_ok) (fun y6 h38 => kc 1 (kB 37 h38 (fun h39 => ke 6 (kNW h39 hFH hFD [0])) (fun h40 => kc 4 (kAb 42 h40 (fun _ => slices_Contains_ok) (fun y7 h41 => ke 1 (kNW h41 hFH hFD [0])))))))) (fun s3 h37 => kBT 43 h37 (fun h42 => kq (kXb (kCx h42 h1 (fun h44 => kLx h44 (fun h45 => PJ.blockRet (kCx h45 h0 (fun h46 => by obtain rfl := oi h46; exact kZ hFn hFH hFD))))))) (fun h43 => kKb (kXo h43 [3, 4, 28, 29])))))
      ·have h47 := condT hb0 hy0
       exact RJ.pin 29 (kd := .i64) (by kernel_rfl) (of_decide_eq_true hb0) (kr 3 (kcN h47 (fun (s2 : Bool) => ([(3, .ptr 0 0), (4, .bool false), (28, .agg (encSt124 y0)), (29, iL 0), (43, .bool s2)], [.box (encSt32 x1)])) (fun s2 hy7 => km 4 (kAb 36 hy7 (fun _ => slices_Contains_ok) (fun y4 h49 => kc 1 (kB 37 h49 (fun h50 => ke 6 (kNW h50 hFH hFD [0])) (fun h51 => kc 4 (kAb 42 h51 (fun _ => slices_Contains_ok) (fun y5 h52 => ke 1 (kNW h52 hFH hFD [0])))))))) (fun s2 h48 => kBT 43 h48 (fun h53 => kq (kXb (kCx h53 h1 (fun h55 => kLx h55 (fun h56 => PJ.blockRet (kCx h56 h0 (fun h57 => by obtain rfl := oi h57; exact kZ hFn hFH hFD))))))) (fun h54 => kKb (kXo h54 [3, 4, 28, 29])))))
     ·exact kM (kLo h23 [3, 4, 28, 29])
    ·exact kEp 0 (kLx h22 (fun h58 => PJ.blockOut (kXW h58 hFH hFD [])))
   ·exact kq (kX (by obtain rfl := oi h19; exact kZ hFn hFH hFD))
def loc_Pattern (x0 : St22) (x1 : Int) (x2 : List UInt8) : Option (St32 × Bool) :=
 (Option.bind (loc_read x2) fun y0 => (Option.bind (Option.bind (bif (!y0.2) then (some true) else (bif (decide (x1 < 0)) then (some true) else (some (decide (x1 > 3))))) fun (s0 : Bool) => (bif s0 then (some (.inr ((⟨([] : List St106), ([] : List St106), ([] : List St106), ([] : List St106), false, 0, 0, 0, 0, 0, 0, 0, 0, 0, false, 0, 0⟩ : St32), false))) else (some (.inl ())))) (joinX fun (s3 : Unit) => (Option.bind (Option.bind (Option.bind (loc_numbered y0.1 x1) fun y2 => (bif (!y2) then (some true) else (Option.bind (loc_pieced y0.1.Pre_ y0.1.Suf_ x1 0) fun y3 => (bif (!y3) then (some true) else (bif y0.1.Neg_ then (Option.bind (loc_pieced y0.1.NPre_ y0.1.NSuf_ x1 1) fun y4 => (some (!y4))) else (some false)))))) fun (s1 : Bool) => (bif s1 then (some (.inr ((⟨([] : List St106), ([] : List St106), ([] : List St106), ([] : List St106), false, 0, 0, 0, 0, 0, 0, 0, 0, 0, false, 0, 0⟩ : St32), false))) else (some (.inl ())))) (joinX fun (s4 : Unit) => (Option.bind (Option.bind (Option.bind (loc_toldApart x0 y0.1 ([] : List Int)) fun y1 => (bif (!y1) then (some true) else (Option.bind (loc_padded x0 y0.1) fun y5 => (some (!y5))))) fun (s2 : Bool) => (bif s2 then (some (.inr ((⟨([] : List St106), ([] : List St106), ([] : List St106), ([] : List St106), false, 0, 0, 0, 0, 0, 0, 0, 0, 0, false, 0, 0⟩ : St32), false))) else (some (.inl ())))) (joinX fun (s5 : Unit) => (some (y0.1, true)))))))))
theorem loc_Pattern_ok {x0 : St22} {x1 : Int} {x2 : List UInt8} {r : St32 × Bool} (h : loc_Pattern x0 x1 x2 = some r) : SC Tryz.prog 11 [.agg (encSt22 x0), iL x1, .str x2] [] (.tup [.agg (encSt32 r.1), .bool r.2]) [] := by
 refine kFn (fn := Tryz.f11) (fun F hFn hFH hFD => ?_)
 unfold loc_Pattern at h
 refine kq (kn 1 (kAb 12 h (fun _ => loc_read_ok) (fun y0 h0 => kr 6 (kcX h0 (fun (s3 : Unit) => ([(1, iL x1), (3, .ptr 0 0), (6, .ptr 1 0), (7, .bool false), (8, .ptr 2 0)], [.box (encSt22 x0), .box [.nl, .nl, .nl, .nl, .bool false, iL 0, iL 0, iL 0, iL 0, iL 0, iL 0, iL 0, iL 0, iL 0, .bool false, iM 0, iL 0], .box (encSt32 y0.1)])) (fun y6 hy0 h1 => ?_) (fun s3 h2 => ?_)))))
 ·exact kcN hy0 (fun (s0 : Bool) => ([(1, iL x1), (3, .ptr 0 0), (6, .ptr 1 0), (7, .bool false), (8, .ptr 2 0), (24, .bool s0)], [.box (encSt22 x0), .box [.nl, .nl, .nl, .nl, .bool false, iL 0, iL 0, iL 0, iL 0, iL 0, iL 0, iL 0, iL 0, iL 0, .bool false, iM 0, iL 0], .box (encSt32 y0.1)])) (fun s0 hy1 => km 3 (kB 17 hy1 (fun h4 => ke 7 (kNo h4 [1, 3, 6, 7, 8, 24])) (fun h5 => kc 4 (kB 21 h5 (fun h6 => ke 3 (kNo h6 [1, 3, 6, 7, 8, 24])) (fun h7 => ke 3 (kNo h7 [1, 3, 6, 7, 8, 24])))))) (fun s0 h3 => kBT 24 h3 (fun h8 => kq (kX (kCx h8 h1 (fun h10 => by obtain rfl := oi h10; exact PJ.res (v1 := .tup [.agg [.nl, .nl, .nl, .nl, .bool false, iL 0, iL 0, iL 0, iL 0, iL 0, iL 0, iL 0, iL 0, iL 0, .bool false, iM 0, iL 0], .bool false]) (Le.tup (.cons (Le.agg (.cons (Le.nl _) (.cons (Le.nl _) (.cons (Le.nl _) (.cons (Le.nl _) (.cons (Le.refl _) (.cons (Le.refl _) (.cons (Le.refl _) (.cons (Le.refl _) (.cons (Le.refl _) (.cons (Le.refl _) (.cons (Le.refl _) (.cons (Le.refl _) (.cons (Le.refl _) (.cons (Le.refl _) (.cons (Le.refl _) (.cons (Le.refl _) (.cons (Le.refl _) .nil)))))))))))))))))) (.cons (Le.refl _) .nil))) (kZ hFn hFH hFD))))) (fun h9 => kK (kXo h9 [1, 3, 6, 7, 8])))
 ·refine kcX h2 (fun (s4 : Unit) => ([(3, .ptr 0 0), (6, .ptr 1 0), (7, .bool false), (8, .ptr 2 0)], [.box (encSt22 x0), .box [.nl, .nl, .nl, .nl, .bool false, iL 0, iL 0, iL 0, iL 0, iL 0, iL 0, iL 0, iL 0, iL 0, .bool false, iM 0, iL 0], .box (encSt32 y0.1)])) (fun y7 hy2 h11 => ?_) (fun s4 h12 => ?_)
  ·exact kcN hy2 (fun (s1 : Bool) => ([(3, .ptr 0 0), (6, .ptr 1 0), (7, .bool false), (8, .ptr 2 0), (51, .bool s1)], [.box (encSt22 x0), .box [.nl, .nl, .nl, .nl, .bool false, iL 0, iL 0, iL 0, iL 0, iL 0, iL 0, iL 0, iL 0, iL 0, .bool false, iM 0, iL 0], .box (encSt32 y0.1)])) (fun s1 hy3 => km 2 (kAb 28 hy3 (fun _ => loc_numbered_ok) (fun y2 h14 => kc 2 (kB 30 h14 (fun h15 => ke 21 (kNo h15 [3, 6, 7, 8, 51])) (fun h16 => kc 5 (kAb 36 h16 (fun _ => loc_pieced_ok) (fun y3 h17 => kc 3 (kB 39 h17 (fun h18 => ke 12 (kNo h18 [3, 6, 7, 8, 51])) (fun h19 => kc 3 (kB 42 h19 (fun h20 => kc 5 (kAb 48 h20 (fun _ => loc_pieced_ok) (fun y4 h22 => ke 3 (kNo h22 [3, 6, 7, 8, 51])))) (fun h21 => ke 9 (kNo h21 [3, 6, 7, 8, 51])))))))))))) (fun s1 h13 => kBT 51 h13 (fun h23 => kq (kX (kCx h23 h11 (fun h25 => by obtain rfl := oi h25; exact PJ.res (v1 := .tup [.agg [.nl, .nl, .nl, .nl, .bool false, iL 0, iL 0, iL 0, iL 0, iL 0, iL 0, iL 0, iL 0, iL 0, .bool false, iM 0, iL 0], .bool false]) (Le.tup (.cons (Le.agg (.cons (Le.nl _) (.cons (Le.nl _) (.cons (Le.nl _) (.cons (Le.nl _) (.cons (Le.refl _) (.cons (Le.refl _) (.cons (Le.refl _) (.cons (Le.refl _) (.cons (Le.refl _) (.cons (Le.refl _) (.cons (Le.refl _) (.cons (Le.refl _) (.cons (Le.refl _) (.cons (Le.refl _) (.cons (Le.refl _) (.cons (Le.refl _) (.cons (Le.refl _) .nil)))))))))))))))))) (.cons (Le.refl _) .nil))) (kZ hFn hFH hFD))))) (fun h24 => kK (kXo h24 [3, 6, 7, 8])))
  ·refine kcX h12 (fun (s5 : Unit) => ([(6, .ptr 0 0), (7, .bool false), (8, .ptr 1 0)], [.box [.nl, .nl, .nl, .nl, .bool false, iL 0, iL 0, iL 0, iL 0, iL 0, iL 0, iL 0, iL 0, iL 0, .bool false, iM 0, iL 0], .box (encSt32 y0.1)])) (fun y8 hy4 h26 => ?_) (fun s5 h27 => ?_)
   ·refine kcN hy4 (fun (s2 : Bool) => ([(6, .ptr 0 0), (7, .bool false), (8, .ptr 1 0), (62, .bool s2)], [.box [.nl, .nl, .nl, .nl, .bool false, iL 0, iL 0, iL 0, iL 0, iL 0, iL 0, iL 0, iL 0, iL 0, .bool false, iM 0, iL 0], .box (encSt32 y0.1)])) (fun s2 hy5 => ?_) (fun s2 h28 => ?_)
    ·refine km 2 ?_
     obtain ⟨y1, hy6, h29⟩ := bindS hy5
     exact RJ.call0 (d := (some 55)) (f := 40) (args := [.agg (encSt22 x0), .agg (encSt32 y0.1), .nl]) (v := .bool y1) (tr2 := []) (by kernel_rfl) (by kernel_rfl) (.cons (Le.refl _) (.cons (Le.refl _) (.cons (Le.nl _) .nil))) (loc_toldApart_ok hy6) (by kernel_rfl) (kc 2 (kB 57 h29 (fun h30 => ke 5 (kNW h30 hFH hFD [1, 2])) (fun h31 => kc 2 (kAb 60 h31 (fun _ => loc_padded_ok) (fun y5 h32 => ke 2 (kNW h32 hFH hFD [1, 2]))))))
    ·exact kBT 62 h28 (fun h33 => kq (kX (kCx h33 h26 (fun h35 => by obtain rfl := oi h35; exact PJ.res (v1 := .tup [.agg [.nl, .nl, .nl, .nl, .bool false, iL 0, iL 0, iL 0, iL 0, iL 0, iL 0, iL 0, iL 0, iL 0, .bool false, iM 0, iL 0], .bool false]) (Le.tup (.cons (Le.agg (.cons (Le.nl _) (.cons (Le.nl _) (.cons (Le.nl _) (.cons (Le.nl _) (.cons (Le.refl _) (.cons (Le.refl _) (.cons (Le.refl _) (.cons (Le.refl _) (.cons (Le.refl _) (.cons (Le.refl _) (.cons (Le.refl _) (.cons (Le.refl _) (.cons (Le.refl _) (.cons (Le.refl _) (.cons (Le.refl _) (.cons (Le.refl _) (.cons (Le.refl _) .nil)))))))))))))))))) (.cons (Le.refl _) .nil))) (kZ hFn hFH hFD))))) (fun h34 => kK (kXo h34 [6, 7, 8]))
   ·exact kq (kX (by obtain rfl := oi h27; exact kZ hFn hFH hFD))
def exerguelaw15_small  : Option (St46) :=
 (Option.bind exerguelaw15_latin fun y0 => (some (⟨([101, 110] : List UInt8), y0, (⟨([35, 44, 35, 35, 48, 46, 35, 35, 35] : List UInt8), ([35, 44, 35, 35, 48, 37] : List UInt8), ([48, 46, 35, 35, 35, 69, 48] : List UInt8), ([194, 164, 35, 44, 35, 35, 48, 46, 48, 48] : List UInt8)⟩ : St42), ([(⟨2, ([105, 32, 61, 32, 49, 32, 97, 110, 100, 32, 118, 32, 61, 32, 48] : List UInt8)⟩ : St91)] : List St91), ([(⟨([85, 83, 68] : List UInt8), ([36] : List UInt8), 2⟩ : St58)] : List St58), ([(⟨4, 0, ([48, 75] : List UInt8)⟩ : St25), (⟨5, 0, ([48, 48, 75] : List UInt8)⟩ : St25)] : List St25)⟩ : St46)))
theorem exerguelaw15_small_ok  {r : St46} (h : exerguelaw15_small = some r) : SC Tryz.prog 33 [] [] (.agg (encSt46 r)) [] := by
 refine kFn (fn := Tryz.f33) (fun F hFn hFH hFD => ?_)
 unfold exerguelaw15_small at h
 exact kq (kSR (kAb 1 h (fun _ => exerguelaw15_latin_ok) (fun y0 h0 => kr 10 (kX (by obtain rfl := oi h0; exact PJ.wk (Wk.freeze 1 (n := (([(⟨2, ([105, 32, 61, 32, 49, 32, 97, 110, 100, 32, 118, 32, 61, 32, 48] : List UInt8)⟩ : St91)] : List St91)).length) (k := 2) (e := 92) (cs := (([(⟨2, ([105, 32, 61, 32, 49, 32, 97, 110, 100, 32, 118, 32, 61, 32, 48] : List UInt8)⟩ : St91)] : List St91)).flatMap encSt91) (by kernel_rfl)) (PJ.wk (Wk.freeze 2 (n := (([(⟨([85, 83, 68] : List UInt8), ([36] : List UInt8), 2⟩ : St58)] : List St58)).length) (k := 3) (e := 59) (cs := (([(⟨([85, 83, 68] : List UInt8), ([36] : List UInt8), 2⟩ : St58)] : List St58)).flatMap encSt58) (by kernel_rfl)) (PJ.wk (Wk.freeze 3 (n := (([(⟨4, 0, ([48, 75] : List UInt8)⟩ : St25), (⟨5, 0, ([48, 48, 75] : List UInt8)⟩ : St25)] : List St25)).length) (k := 3) (e := 26) (cs := (([(⟨4, 0, ([48, 75] : List UInt8)⟩ : St25), (⟨5, 0, ([48, 48, 75] : List UInt8)⟩ : St25)] : List St25)).flatMap encSt25) (by kernel_rfl)) (kZ hFn hFH hFD))))))))
structure St93 where
 Locale_ : St46
 deriving Inhabited, DecidableEq
def encSt93 (x : St93) : List SV := [.str x.Locale_.Tag_, .int .i32 x.Locale_.S_.Zero_, .int .i32 x.Locale_.S_.Dec_, .int .i32 x.Locale_.S_.Group_, .int .i32 x.Locale_.S_.Minus_, .int .i32 x.Locale_.S_.Plus_, .int .i32 x.Locale_.S_.Percent_, .int .i32 x.Locale_.S_.Exp_, .str x.Locale_.Pats_.a0_, .str x.Locale_.Pats_.a1_, .str x.Locale_.Pats_.a2_, .str x.Locale_.Pats_.a3_, lsv encSt91 2 x.Locale_.Rules_, lsv encSt58 3 x.Locale_.Curs_, lsv encSt25 3 x.Locale_.Comps_]
theorem encSt93_len (x : St93) : (encSt93 x).length = 15 := rfl
def loc_capital (x0 : Int) : Option (Bool) :=
 (Option.bind (bif (decide (65 ≤ x0)) then (some (decide (x0 ≤ 90))) else (some false)) fun (s0 : Bool) => (some s0))
theorem loc_capital_ok {x0 : Int} {r : Bool} (h : loc_capital x0 = some r) : SC Tryz.prog 91 [.int .u8 x0] [] (.bool r) [] := by
 refine kFn (fn := Tryz.f91) (fun F hFn hFH hFD => ?_)
 unfold loc_capital at h
 exact kq (kcN h (fun (s0 : Bool) => ([(2, .bool s0)], [])) (fun s0 hy0 => km 3 (kB 5 hy0 (fun h1 => ke 4 (kNo h1 [2])) (fun h2 => ke 4 (kNo h2 [2])))) (fun s0 h0 => kX (by obtain rfl := oi h0; exact kZ hFn hFH hFD)))
def loc_letter (x0 : Int) : Option (Bool) :=
 (Option.bind (bif (decide (97 ≤ x0)) then (bif (decide (x0 ≤ 122)) then (some true) else (Option.bind (loc_capital x0) fun y0 => (some y0))) else (Option.bind (loc_capital x0) fun y1 => (some y1))) fun (s0 : Bool) => (some s0))
theorem loc_letter_ok {x0 : Int} {r : Bool} (h : loc_letter x0 = some r) : SC Tryz.prog 48 [.int .u8 x0] [] (.bool r) [] := by
 refine kFn (fn := Tryz.f48) (fun F hFn hFH hFD => ?_)
 unfold loc_letter at h
 exact kq (kcN h (fun (s0 : Bool) => ([(2, .bool s0)], [])) (fun s0 hy0 => km 3 (kB 5 hy0 (fun h1 => kc 4 (kB 9 h1 (fun h3 => ke 4 (kNo h3 [2])) (fun h4 => kc 1 (kAb 11 h4 (fun _ => loc_capital_ok) (fun y0 h5 => ke 2 (kNo h5 [2])))))) (fun h2 => kc 5 (kAb 11 h2 (fun _ => loc_capital_ok) (fun y1 h6 => ke 2 (kNo h6 [2])))))) (fun s0 h0 => kX (by obtain rfl := oi h0; exact kZ hFn hFH hFD)))
def loc_Tag (x0 : List UInt8) : Option (Bool) :=
 (Option.bind (Option.bind (bif (decide ((x0.length : Int) = 0)) then (some true) else (some ((decide ((x0.length : Int) > 20))))) fun (s1 : Bool) => (bif s1 then (some (.inr false)) else (some (.inl ())))) (joinX fun (s3 : Unit) => (Option.bind (loopN (fun (s0 : Int) => (bif (decide (s0 < ((bytesI x0).length : Int))) then (Option.bind (bif inR s0 (bytesI x0).length then (Option.bind (Option.bind (loc_letter (nth (bytesI x0) s0)) fun y0 => (bif (!y0) then (bif (decide (¬ (nth (bytesI x0) s0) = 45)) then (bif (decide ((nth (bytesI x0) s0) < 48)) then (some true) else (some ((decide ((nth (bytesI x0) s0) > 57))))) else (some false)) else (some false))) fun (s2 : Bool) => (bif s2 then (some (.inr (.inr (.inr false)))) else (some (.inl ())))) else none) (joinX fun (s4 : Unit) => (some (.inl (IntKind.wrap .i64 (s0 + 1)))))) else (some (.inr (.inl ()))))) big 0) (joinX fun (s5 : Unit) => (some true)))))
theorem loc_Tag_ok {x0 : List UInt8} {r : Bool} (h : loc_Tag x0 = some r) : SC Tryz.prog 16 [.str x0] [] (.bool r) [] := by
 refine kFn (fn := Tryz.f16) (fun F hFn hFH hFD => ?_)
 unfold loc_Tag at h
 exact kq (kcX h (fun (s3 : Unit) => ([(0, .str x0), (2, .bool false)], [])) (fun y1 hy0 h0 => kcN hy0 (fun (s1 : Bool) => ([(0, .str x0), (2, .bool false), (12, .bool s1)], [])) (fun s1 hy1 => km 4 (kB 8 hy1 (fun h3 => ke 4 (kNo h3 [0, 2, 12])) (fun h4 => ke 4 (kNo h4 [0, 2, 12])))) (fun s1 h2 => kBT 12 h2 (fun h5 => kq (kX (kCx h5 h0 (fun h7 => by obtain rfl := oi h7; exact kZ hFn hFH hFD)))) (fun h6 => kK (kXo h6 [0, 2])))) (fun s3 h1 => kcX h1 (fun (s5 : Unit) => ([(2, .bool false)], [])) (fun y2 hy2 h8 => kn 1 (RJ.rel (d := (some 14)) (ef := ⟨.lst x0.length 1 (x0.map byteSV), [], []⟩) (ef' := ⟨lB (bytesI x0), [], []⟩) (c := true) (tr2 := []) (H2 := []) (by kernel_rfl) rfl (fun hc => N.toBytes) (by kernel_rfl) (kr 2 (kb 0 (kl (fun (s0 : Int) => ([(2, .bool false), (14, lB (bytesI x0)), (15, iL ((bytesI x0).length : Int)), (16, iL s0)], [])) hy2 [2, 14, 15, 16] (fun s0 x466 hs0 => kq (kS (kBT 17 hs0 (fun h10 => kKN (kcX h10 (fun (s4 : Unit) => ([(2, .bool false), (14, lB (bytesI x0)), (15, iL ((bytesI x0).length : Int)), (16, iL s0)], [])) (fun y3 hy3 h12 => kb 1 (kSR (kIb 18 (encI_len .u8) hy3 (fun h14 => kr 2 (kcN h14 (fun (s2 : Bool) => ([(2, .bool false), (14, lB (bytesI x0)), (15, iL ((bytesI x0).length : Int)), (16, iL s0), (34, .bool s2)], [])) (fun s2 hy4 => km 1 (kAb 21 hy4 (fun _ => loc_letter_ok) (fun y0 h16 => kc 2 (kB 23 h16 (fun h17 => kc 4 (kB 27 h17 (fun h19 => kc 3 (kB 30 h19 (fun h21 => ke 4 (kNo h21 [2, 14, 15, 16, 34])) (fun h22 => ke 4 (kNo h22 [2, 14, 15, 16, 34])))) (fun h20 => ke 7 (kNo h20 [2, 14, 15, 16, 34])))) (fun h18 => ke 11 (kNo h18 [2, 14, 15, 16, 34])))))) (fun s2 h15 => kBT 34 h15 (fun h23 => kq (kXb (kCx h23 h12 (fun h25 => kLx h25 (fun h26 => PJ.blockRet (kCx h26 h8 (fun h27 => by obtain rfl := oi h27; exact kZ hFn hFH hFD))))))) (fun h24 => kKb (kXo h24 [2, 14, 15, 16])))))))) (fun s4 h13 => kM (kLo h13 [2, 14, 15, 16])))) (fun h11 => kEp 0 (kLx h11 (fun h28 => PJ.blockOut (kXo h28 [2])))))))))))) (fun s5 h9 => kq (kX (by obtain rfl := oi h9; exact kZ hFn hFH hFD)))))
def loc_checker__tag (x0 : St93) : Option (Int × Bool) :=
 (Option.bind (loc_Tag x0.Locale_.Tag_) fun y0 => (some (0, y0)))
theorem loc_checker__tag_ok {x0 : St93} {r : Int × Bool} (h : loc_checker__tag x0 = some r) : SC Tryz.prog 52 [.agg (encSt93 x0)] [] (.tup [iL r.1, .bool r.2]) [] := by
 refine kFn (fn := Tryz.f52) (fun F hFn hFH hFD => ?_)
 unfold loc_checker__tag at h
 exact kq (kn 3 (kAb 7 h (fun _ => loc_Tag_ok) (fun y0 h0 => kr 2 (kX (by obtain rfl := oi h0; exact kZ hFn hFH hFD)))))
def class_Zero (x0 : Int) : Option (Bool) :=
 (Option.bind (class_Value x0) fun y0 => (Option.bind (bif y0.2 then (some (decide (y0.1 = 0))) else (some false)) fun (s0 : Bool) => (some s0)))
theorem class_Zero_ok {x0 : Int} {r : Bool} (h : class_Zero x0 = some r) : SC Tryz.prog 128 [iM x0] [] (.bool r) [] := by
 refine kFn (fn := Tryz.f128) (fun F hFn hFH hFD => ?_)
 unfold class_Zero at h
 exact kq (kn 1 (kAb 7 h (fun _ => class_Value_ok) (fun y0 h0 => kr 5 (kcN h0 (fun (s0 : Bool) => ([(2, .bool s0)], [])) (fun s0 hy0 => km 2 (kB 11 hy0 (fun h2 => ke 4 (kNo h2 [2])) (fun h3 => ke 4 (kNo h3 [2])))) (fun s0 h1 => kX (by obtain rfl := oi h1; exact kZ hFn hFH hFD))))))
def sym_apart_s0 (x0 : St22) : Option ((List (Int × Int))) :=
 (Option.bind (loopN (fun (s0 : Int × (List (Int × Int))) => (bif (decide (s0.1 < 6)) then (bif (decide (s0.1 = 0)) then (some (.inl ((IntKind.wrap .i64 (0 + 1)), (mset ((IntKind.wrap .i64 ((((mget (fun a b : Int => a == b) s0.2 x0.Dec_).getD 0)) + 1))) x0.Dec_ s0.2)))) else (bif (decide (s0.1 = 1)) then (some (.inl ((IntKind.wrap .i64 (1 + 1)), (mset ((IntKind.wrap .i64 ((((mget (fun a b : Int => a == b) s0.2 x0.Group_).getD 0)) + 1))) x0.Group_ s0.2)))) else (bif (decide (s0.1 = 2)) then (some (.inl ((IntKind.wrap .i64 (2 + 1)), (mset ((IntKind.wrap .i64 ((((mget (fun a b : Int => a == b) s0.2 x0.Minus_).getD 0)) + 1))) x0.Minus_ s0.2)))) else (bif (decide (s0.1 = 3)) then (some (.inl ((IntKind.wrap .i64 (3 + 1)), (mset ((IntKind.wrap .i64 ((((mget (fun a b : Int => a == b) s0.2 x0.Plus_).getD 0)) + 1))) x0.Plus_ s0.2)))) else (bif (decide (s0.1 = 4)) then (some (.inl ((IntKind.wrap .i64 (4 + 1)), (mset ((IntKind.wrap .i64 ((((mget (fun a b : Int => a == b) s0.2 x0.Percent_).getD 0)) + 1))) x0.Percent_ s0.2)))) else (bif (decide (s0.1 = 5)) then (some (.inl ((IntKind.wrap .i64 (5 + 1)), (mset ((IntKind.wrap .i64 ((((mget (fun a b : Int => a == b) s0.2 x0.Exp_).getD 0)) + 1))) x0.Exp_ s0.2)))) else none)))))) else (some (.inr s0.2)))) big (0, ([] : List (Int × Int)))) fun (s1 : (List (Int × Int))) => (some s1))
theorem sym_apart_s0_ok {x0 : St22} {r : (List (Int × Int))} (h : sym_apart_s0 x0 = some r) : SC Tryz.prog 129 [.agg (encSt22 x0)] [] (.mp 0) [.map (mapL (fun k : Int => iM k) (fun k : Int => iL k) r)] := by
 refine kFn (fn := Tryz.f129) (fun F hFn hFH hFD => ?_)
 unfold sym_apart_s0 at h
 refine kq (kq (kcN h (fun (s1 : (List (Int × Int))) => ([(3, .mp 0)], [.map (mapL (fun k : Int => iM k) (fun k : Int => iL k) s1)])) (fun s1 hy0 => ?_) (fun s1 h6 => ?_)))
 ·refine kq (kb 0 (J.wk (Wk.sel (L2 := [(3, .mp 0), (19, .agg [iM x0.Dec_, iM x0.Group_, iM x0.Minus_, iM x0.Plus_, iM x0.Percent_, iM x0.Exp_]), (20, iL 0)]) (H2 := [.map (mapL (fun k : Int => iM k) (fun k : Int => iL k) ([] : List (Int × Int)))]) 0 (by rw [hFH]; rfl) hFD [1] (by kernel_rfl) (by simp only [List.map_cons, List.map_nil, rn_mapL (ek := (fun k : Int => iM k)) (ev := (fun k : Int => iL k)) (fun _ _ => rfl) (fun _ _ => rfl)]; kernel_rfl) (by decide) (by simp only [List.all_cons, List.all_nil, refs_mapL (ek := (fun k : Int => iM k)) (ev := (fun k : Int => iL k)) (fun _ _ => rfl) (fun _ _ => rfl)]; kernel_rfl) (by kernel_rfl) (by kernel_rfl) (by kernel_rfl)) (kl (fun (s0 : Int × (List (Int × Int))) => ([(3, .mp 0), (19, .agg [iM x0.Dec_, iM x0.Group_, iM x0.Minus_, iM x0.Plus_, iM x0.Percent_, iM x0.Exp_]), (20, iL s0.1)], [.map (mapL (fun k : Int => iM k) (fun k : Int => iL k) s0.2)])) hy0 [3, 19, 20] (fun s0 x90 hs0 => kq (kS (kBT 21 hs0 (fun h0 => ?_) (fun h7 => ?_)))))))
  ·refine kKN (kS (kb 1 (kSR ?_)))
   cases hb0 : (decide (s0.1 = 0))
   ·have h1 := condF hb0 h0
    cases hb1 : (decide (s0.1 = 1))
    ·have h2 := condF hb1 h1
     cases hb2 : (decide (s0.1 = 2))
     ·have h3 := condF hb2 h2
      cases hb3 : (decide (s0.1 = 3))
      ·have h4 := condF hb3 h3
       cases hb4 : (decide (s0.1 = 4))
       ·have h5 := condF hb4 h4
        cases hb5 : (decide (s0.1 = 5))
        ·have h8 := condF hb5 h5
         cases h8
        ·have h9 := condT hb5 h5
         exact RJ.pin 20 (kd := .i64) (by kernel_rfl) (of_decide_eq_true hb5) (kr 2 (km 2 (RJ.lookK (d := (some 25)) (i := 0) (ok := false) (tr2 := []) .i32 (fun k : Int => iL k) s0.2 x0.Exp_ (0 : Int) (by kernel_rfl) (kc 1 (RJ.setK (d := none) (i := 0) (sv := iL ((IntKind.wrap .i64 ((((mget (fun a b : Int => a == b) s0.2 x0.Exp_).getD 0)) + 1)))) (tr2 := []) (H2 := [.map (mapL (fun k : Int => iM k) (fun k : Int => iL k) ((mset ((IntKind.wrap .i64 ((((mget (fun a b : Int => a == b) s0.2 x0.Exp_).getD 0)) + 1))) x0.Exp_ s0.2)))]) .i32 (fun k : Int => iL k) s0.2 x0.Exp_ ((IntKind.wrap .i64 ((((mget (fun a b : Int => a == b) s0.2 x0.Exp_).getD 0)) + 1))) (by kernel_rfl) rfl (by kernel_rfl) (kE (PJ.blockNormal (PJ.next (kM (kLo h9 [3, 19, 20]))))))))))
       ·have h10 := condT hb4 h4
        exact RJ.pin 20 (kd := .i64) (by kernel_rfl) (of_decide_eq_true hb4) (kr 2 (km 2 (RJ.lookK (d := (some 25)) (i := 0) (ok := false) (tr2 := []) .i32 (fun k : Int => iL k) s0.2 x0.Percent_ (0 : Int) (by kernel_rfl) (kc 1 (RJ.setK (d := none) (i := 0) (sv := iL ((IntKind.wrap .i64 ((((mget (fun a b : Int => a == b) s0.2 x0.Percent_).getD 0)) + 1)))) (tr2 := []) (H2 := [.map (mapL (fun k : Int => iM k) (fun k : Int => iL k) ((mset ((IntKind.wrap .i64 ((((mget (fun a b : Int => a == b) s0.2 x0.Percent_).getD 0)) + 1))) x0.Percent_ s0.2)))]) .i32 (fun k : Int => iL k) s0.2 x0.Percent_ ((IntKind.wrap .i64 ((((mget (fun a b : Int => a == b) s0.2 x0.Percent_).getD 0)) + 1))) (by kernel_rfl) rfl (by kernel_rfl) (kE (PJ.blockNormal (PJ.next (kM (kLo h10 [3, 19, 20]))))))))))
      ·have h11 := condT hb3 h3
       exact RJ.pin 20 (kd := .i64) (by kernel_rfl) (of_decide_eq_true hb3) (kr 2 (km 2 (RJ.lookK (d := (some 25)) (i := 0) (ok := false) (tr2 := []) .i32 (fun k : Int => iL k) s0.2 x0.Plus_ (0 : Int) (by kernel_rfl) (kc 1 (RJ.setK (d := none) (i := 0) (sv := iL ((IntKind.wrap .i64 ((((mget (fun a b : Int => a == b) s0.2 x0.Plus_).getD 0)) + 1)))) (tr2 := []) (H2 := [.map (mapL (fun k : Int => iM k) (fun k : Int => iL k) ((mset ((IntKind.wrap .i64 ((((mget (fun a b : Int => a == b) s0.2 x0.Plus_).getD 0)) + 1))) x0.Plus_ s0.2)))]) .i32 (fun k : Int => iL k) s0.2 x0.Plus_ ((IntKind.wrap .i64 ((((mget (fun a b : Int => a == b) s0.2 x0.Plus_).getD 0)) + 1))) (by kernel_rfl) rfl (by kernel_rfl) (kE (PJ.blockNormal (PJ.next (kM (kLo h11 [3, 19, 20]))))))))))
     ·have h12 := condT hb2 h2
      exact RJ.pin 20 (kd := .i64) (by kernel_rfl) (of_decide_eq_true hb2) (kr 2 (km 2 (RJ.lookK (d := (some 25)) (i := 0) (ok := false) (tr2 := []) .i32 (fun k : Int => iL k) s0.2 x0.Minus_ (0 : Int) (by kernel_rfl) (kc 1 (RJ.setK (d := none) (i := 0) (sv := iL ((IntKind.wrap .i64 ((((mget (fun a b : Int => a == b) s0.2 x0.Minus_).getD 0)) + 1)))) (tr2 := []) (H2 := [.map (mapL (fun k : Int => iM k) (fun k : Int => iL k) ((mset ((IntKind.wrap .i64 ((((mget (fun a b : Int => a == b) s0.2 x0.Minus_).getD 0)) + 1))) x0.Minus_ s0.2)))]) .i32 (fun k : Int => iL k) s0.2 x0.Minus_ ((IntKind.wrap .i64 ((((mget (fun a b : Int => a == b) s0.2 x0.Minus_).getD 0)) + 1))) (by kernel_rfl) rfl (by kernel_rfl) (kE (PJ.blockNormal (PJ.next (kM (kLo h12 [3, 19, 20]))))))))))
    ·have h13 := condT hb1 h1
     exact RJ.pin 20 (kd := .i64) (by kernel_rfl) (of_decide_eq_true hb1) (kr 2 (km 2 (RJ.lookK (d := (some 25)) (i := 0) (ok := false) (tr2 := []) .i32 (fun k : Int => iL k) s0.2 x0.Group_ (0 : Int) (by kernel_rfl) (kc 1 (RJ.setK (d := none) (i := 0) (sv := iL ((IntKind.wrap .i64 ((((mget (fun a b : Int => a == b) s0.2 x0.Group_).getD 0)) + 1)))) (tr2 := []) (H2 := [.map (mapL (fun k : Int => iM k) (fun k : Int => iL k) ((mset ((IntKind.wrap .i64 ((((mget (fun a b : Int => a == b) s0.2 x0.Group_).getD 0)) + 1))) x0.Group_ s0.2)))]) .i32 (fun k : Int => iL k) s0.2 x0.Group_ ((IntKind.wrap .i64 ((((mget (fun a b : Int => a == b) s0.2 x0.Group_).getD 0)) + 1))) (by kernel_rfl) rfl (by kernel_rfl) (kE (PJ.blockNormal (PJ.next (kM (kLo h13 [3, 19, 20]))))))))))
   ·have h14 := condT hb0 h0
    exact RJ.pin 20 (kd := .i64) (by kernel_rfl) (of_decide_eq_true hb0) (kr 2 (km 2 (RJ.lookK (d := (some 25)) (i := 0) (ok := false) (tr2 := []) .i32 (fun k : Int => iL k) s0.2 x0.Dec_ (0 : Int) (by kernel_rfl) (kc 1 (RJ.setK (d := none) (i := 0) (sv := iL ((IntKind.wrap .i64 ((((mget (fun a b : Int => a == b) s0.2 x0.Dec_).getD 0)) + 1)))) (tr2 := []) (H2 := [.map (mapL (fun k : Int => iM k) (fun k : Int => iL k) ((mset ((IntKind.wrap .i64 ((((mget (fun a b : Int => a == b) s0.2 x0.Dec_).getD 0)) + 1))) x0.Dec_ s0.2)))]) .i32 (fun k : Int => iL k) s0.2 x0.Dec_ ((IntKind.wrap .i64 ((((mget (fun a b : Int => a == b) s0.2 x0.Dec_).getD 0)) + 1))) (by kernel_rfl) rfl (by kernel_rfl) (kE (PJ.blockNormal (PJ.next (kM (kLo h14 [3, 19, 20]))))))))))
  ·exact kEp 0 (kLx h7 (fun h15 => PJ.blockOut (kNo h15 [3])))
 ·exact kq (kX (by obtain rfl := oi h6; exact K.retV (H0 := []) [0] (.inr rfl) hFn hFH hFD (by kernel_rfl) (v1 := .mp 0) (by kernel_rfl) (by kernel_rfl) (by simp only [List.map_cons, List.map_nil, rn_mapL (ek := (fun k : Int => iM k)) (ev := (fun k : Int => iL k)) (fun _ _ => rfl) (fun _ _ => rfl)]; kernel_rfl) (by decide) (by simp only [List.all_cons, List.all_nil, refs_mapL (ek := (fun k : Int => iM k)) (ev := (fun k : Int => iL k)) (fun _ _ => rfl) (fun _ _ => rfl)]; kernel_rfl) (by kernel_rfl) (by kernel_rfl) (by kernel_rfl) (by kernel_rfl)))
def sym_Good (x0 : St22) : Option (Bool) :=
 (Option.bind (class_Zero x0.Zero_) fun y2 => (bif (!y2) then (some false) else (Option.bind (Option.bind (sym_apart_s0 x0) fun y0 => (Option.bind (mapRun (fun (e61 : Int × Int) => (Option.bind (class_Of e61.1) fun y1 => (Option.bind (bif (decide (e61.2 > 1)) then (some true) else (bif (decide (¬ y1 = 0)) then (some (decide (¬ y1 = 4))) else (some false))) fun (s0 : Bool) => (bif s0 then (some (.inr (.inr false))) else (some (.inl ())))))) y0) (joinX fun (_ : Unit) => (some (.inl ()))))) (joinX fun (s1 : Unit) => (some true)))))
theorem sym_Good_ok {x0 : St22} {r : Bool} (h : sym_Good x0 = some r) : SC Tryz.prog 99 [.agg (encSt22 x0)] [] (.bool r) [] := by
 refine kFn (fn := Tryz.f99) (fun F hFn hFH hFD => ?_)
 unfold sym_Good at h
 refine kq (kS (kn 2 (kAb 8 h (fun _ => class_Zero_ok) (fun y2 h1 => kr 1 (kBT 9 h1 (fun h2 => ?_) (fun h3 => ?_))))))
 ·exact kq (kX (PJ.passRet (by obtain rfl := oi h2; exact kZ hFn hFH hFD)))
 ·refine kKN (kcX h3 (fun (s1 : Unit) => ([(2, .bool false)], [])) (fun y3 hy0 h4 => ?_) (fun s1 h5 => ?_))
  ·refine kn 1 ?_
   obtain ⟨y0, hy1, h6⟩ := bindS hy0
   refine RJ.callG (d := (some 11)) (f := 129) (args := [.agg (encSt22 x0)]) (args0 := [.agg (encSt22 x0)]) (v0 := .mp 0) (v := .mp 1) (tr2 := []) (H0 := []) (H0' := [.map (mapL (fun k : Int => iM k) (fun k : Int => iL k) y0)]) (H2 := [.box (encSt22 x0), .map (mapL (fun k : Int => iM k) (fun k : Int => iL k) y0)]) [] (by kernel_rfl) (by kernel_rfl) (by kernel_rfl) (by kernel_rfl) (by decide) (by kernel_rfl) (by kernel_rfl) (by kernel_rfl) (.cons (Le.refl _) .nil) (sym_apart_s0_ok hy1) (by kernel_rfl) (by kernel_rfl) ((show frameH (selF []) 0 _ [.map (mapL (fun k : Int => iM k) (fun k : Int => iL k) y0)] = [.box (encSt22 x0), Ent.rn (gOf (selF []) 0 1) (.map (mapL (fun k : Int => iM k) (fun k : Int => iL k) y0))] by kernel_rfl).trans (by simp only [rn_mapL (ek := (fun k : Int => iM k)) (ev := (fun k : Int => iL k)) (fun _ _ => rfl) (fun _ _ => rfl)])) (RJ.range (d := (some 12)) (i := 1) (n := (mapL (fun k : Int => iM k) (fun k : Int => iL k) y0).length) (by kernel_rfl) (kEN (kb 0 (J.wk (Wk.sel (L2 := [(2, .bool false), (12, .ptr 0 0)]) (H2 := [.itr 1 ((mapL (fun k : Int => iM k) (fun k : Int => iL k) y0).length) ([] : List Nat), .map (mapL (fun k : Int => iM k) (fun k : Int => iL k) y0)]) 0 (by rw [hFH]; rfl) hFD [2, 1] (by kernel_rfl) (by simp only [List.map_cons, List.map_nil, rn_mapL (ek := (fun k : Int => iM k)) (ev := (fun k : Int => iL k)) (fun _ _ => rfl) (fun _ _ => rfl)]; kernel_rfl) (by decide) (by simp only [List.all_cons, List.all_nil, refs_mapL (ek := (fun k : Int => iM k)) (ev := (fun k : Int => iL k)) (fun _ _ => rfl) (fun _ _ => rfl)]; kernel_rfl) (by kernel_rfl) (by kernel_rfl) (by kernel_rfl)) ?_))))
   obtain ⟨y4, hy2, h0⟩ := bindS h6
   refine K.mapLoop 12 13 14 0 0 1 (n := (mapL (fun k : Int => iM k) (fun k : Int => iL k) y0).length) (by kernel_rfl) (by kernel_rfl) _ _ (fun p : Int × Int => ((fun k : Int => iM k) p.1, (fun k : Int => iL k) p.2)) hy2 [2, 12] (L2 := [(2, .bool false), (12, .ptr 0 0)]) (by kernel_rfl) (by kernel_rfl) (by kernel_rfl) (by kernel_rfl) (by kernel_rfl) (by kernel_rfl) (fun sq => [.itr 1 ((mapL (fun k : Int => iM k) (fun k : Int => iL k) y0).length) sq, .map (mapL (fun k : Int => iM k) (fun k : Int => iL k) y0)]) (by kernel_rfl) (fun _ _ => by kernel_rfl) (fun _ => by kernel_rfl) (fun _ => by kernel_rfl) rfl (fun sv62 he0 => ?_) (fun sv62 bv63 e61 x91 hb0 hx58 => ?_)
   ·subst he0
    have h7 := joinX_inl h0
    exact PJ.blockOut (kXW h7 hFH hFD [])
   ·refine kb 1 (kSR (RJ.entry (d := (some 15)) (i := 1) (n := (mapL (fun k : Int => iM k) (fun k : Int => iL k) y0).length) (b := bv63) (s := sv62) (kv := ((iM e61.1 : SV), (iL e61.2 : SV))) (by kernel_rfl) (by kernel_rfl) rfl hb0 (kr 4 (kn 1 (kAb 19 hx58 (fun _ => class_Of_ok) (fun y1 h8 => kr 1 (kcN h8 (fun (s0 : Bool) => ([(2, .bool false), (12, .ptr 0 0), (29, .bool s0)], [.itr 1 ((mapL (fun k : Int => iM k) (fun k : Int => iL k) y0).length) (sv62 ++ [bv63]), .map (mapL (fun k : Int => iM k) (fun k : Int => iL k) y0)])) (fun s0 hy3 => ?_) (fun s0 h9 => ?_))))))))
    ·exact km 3 (kB 22 hy3 (fun h10 => ke 7 (kNo h10 [2, 12, 29])) (fun h11 => kc 3 (kB 25 h11 (fun h12 => ke 4 (kNo h12 [2, 12, 29])) (fun h13 => ke 4 (kNo h13 [2, 12, 29])))))
    ·refine kBT 29 h9 (fun h14 => ?_) (fun h15 => ?_)
     ·refine kq (kXb ?_)
      obtain rfl := oi h14
      refine PJ.mapOut (fun e => nomatch e) (fun he1 => ?_)
      subst he1
      have h16 := joinX_inr h0
      exact PJ.blockRet (kCx h16 h4 (fun h17 => by obtain rfl := oi h17; exact kZ hFn hFH hFD))
     ·exact kKb (by obtain rfl := oi h15; exact PJ.mapNext [2, 12] (by kernel_rfl) (by kernel_rfl))
  ·exact kq (kX (by obtain rfl := oi h5; exact kZ hFn hFH hFD))
def loc_checker__signs (x0 : St93) : Option (Int × Bool) :=
 (Option.bind (sym_Good x0.Locale_.S_) fun y0 => (some (0, y0)))
theorem loc_checker__signs_ok {x0 : St93} {r : Int × Bool} (h : loc_checker__signs x0 = some r) : SC Tryz.prog 53 [.agg (encSt93 x0)] [] (.tup [iL r.1, .bool r.2]) [] := by
 refine kFn (fn := Tryz.f53) (fun F hFn hFH hFD => ?_)
 unfold loc_checker__signs at h
 exact kq (kn 3 (kAb 7 h (fun _ => sym_Good_ok) (fun y0 h0 => kr 2 (kX (by obtain rfl := oi h0; exact kZ hFn hFH hFD)))))
def loc_checker__patterns (x0 : St93) : Option (Int × Bool) :=
 (Option.bind (loopN (fun (s0 : Int) => (bif (decide (s0 < 4)) then (bif (decide (s0 = 0)) then (Option.bind (loc_Pattern x0.Locale_.S_ 0 x0.Locale_.Pats_.a0_) fun y0 => (bif (!y0.2) then (some (.inr (.inr (0, false)))) else (some (.inl (IntKind.wrap .i64 (0 + 1)))))) else (bif (decide (s0 = 1)) then (Option.bind (loc_Pattern x0.Locale_.S_ 1 x0.Locale_.Pats_.a1_) fun y1 => (bif (!y1.2) then (some (.inr (.inr (1, false)))) else (some (.inl (IntKind.wrap .i64 (1 + 1)))))) else (bif (decide (s0 = 2)) then (Option.bind (loc_Pattern x0.Locale_.S_ 2 x0.Locale_.Pats_.a2_) fun y2 => (bif (!y2.2) then (some (.inr (.inr (2, false)))) else (some (.inl (IntKind.wrap .i64 (2 + 1)))))) else (bif (decide (s0 = 3)) then (Option.bind (loc_Pattern x0.Locale_.S_ 3 x0.Locale_.Pats_.a3_) fun y3 => (bif (!y3.2) then (some (.inr (.inr (3, false)))) else (some (.inl (IntKind.wrap .i64 (3 + 1)))))) else none)))) else (some (.inr (.inl ()))))) big 0) (joinX fun (s1 : Unit) => (some (0, true))))
theorem loc_checker__patterns_ok {x0 : St93} {r : Int × Bool} (h : loc_checker__patterns x0 = some r) : SC Tryz.prog 54 [.agg (encSt93 x0)] [] (.tup [iL r.1, .bool r.2]) [] := by
 refine kFn (fn := Tryz.f54) (fun F hFn hFH hFD => ?_)
 unfold loc_checker__patterns at h
 refine kq (kcX h (fun (s1 : Unit) => ([(2, iL 0), (3, .bool false)], [])) (fun y4 hy0 h0 => ?_) (fun s1 h5 => ?_))
 ·refine kq (kb 0 (kl (fun (s0 : Int) => ([(1, .ptr 0 0), (2, iL 0), (3, .bool false), (10, .agg (encSt42 x0.Locale_.Pats_)), (11, iL s0)], [.box (encSt93 x0)])) hy0 [1, 2, 3, 10, 11] (fun s0 x198 hs0 => kq (kS (kBT 12 hs0 (fun h1 => ?_) (fun h6 => ?_))))))
  ·refine kKN (kS (kb 1 (kn 1 ?_)))
   cases hb0 : (decide (s0 = 0))
   ·have h2 := condF hb0 h1
    cases hb1 : (decide (s0 = 1))
    ·have h3 := condF hb1 h2
     cases hb2 : (decide (s0 = 2))
     ·have h4 := condF hb2 h3
      cases hb3 : (decide (s0 = 3))
      ·have h7 := condF hb3 h4
       cases h7
      ·have h8 := condT hb3 h4
       exact RJ.pin 11 (kd := .i64) (by kernel_rfl) (of_decide_eq_true hb3) (RJ.pin 13 (kd := .i64) (by kernel_rfl) (of_decide_eq_true hb3) (kr 3 (kn 5 (kAb 21 h8 (fun _ => loc_Pattern_ok) (fun y3 h9 => kr 6 (kq (kBT 25 h9 (fun h10 => kq (kXp (kLx h10 (fun h12 => PJ.blockRet (kCx h12 h0 (fun h13 => by obtain rfl := oi h13; exact kZ hFn hFH hFD)))))) (fun h11 => kKn (kM (kLW h11 hFH hFD [0]))))))))))
     ·have h14 := condT hb2 h3
      exact RJ.pin 11 (kd := .i64) (by kernel_rfl) (of_decide_eq_true hb2) (RJ.pin 13 (kd := .i64) (by kernel_rfl) (of_decide_eq_true hb2) (kr 3 (kn 5 (kAb 21 h14 (fun _ => loc_Pattern_ok) (fun y2 h15 => kr 6 (kq (kBT 25 h15 (fun h16 => kq (kXp (kLx h16 (fun h18 => PJ.blockRet (kCx h18 h0 (fun h19 => by obtain rfl := oi h19; exact kZ hFn hFH hFD)))))) (fun h17 => kKn (kM (kLW h17 hFH hFD [0]))))))))))
    ·have h20 := condT hb1 h2
     exact RJ.pin 11 (kd := .i64) (by kernel_rfl) (of_decide_eq_true hb1) (RJ.pin 13 (kd := .i64) (by kernel_rfl) (of_decide_eq_true hb1) (kr 3 (kn 5 (kAb 21 h20 (fun _ => loc_Pattern_ok) (fun y1 h21 => kr 6 (kq (kBT 25 h21 (fun h22 => kq (kXp (kLx h22 (fun h24 => PJ.blockRet (kCx h24 h0 (fun h25 => by obtain rfl := oi h25; exact kZ hFn hFH hFD)))))) (fun h23 => kKn (kM (kLW h23 hFH hFD [0]))))))))))
   ·have h26 := condT hb0 h1
    exact RJ.pin 11 (kd := .i64) (by kernel_rfl) (of_decide_eq_true hb0) (RJ.pin 13 (kd := .i64) (by kernel_rfl) (of_decide_eq_true hb0) (kr 3 (kn 5 (kAb 21 h26 (fun _ => loc_Pattern_ok) (fun y0 h27 => kr 6 (kq (kBT 25 h27 (fun h28 => kq (kXp (kLx h28 (fun h30 => PJ.blockRet (kCx h30 h0 (fun h31 => by obtain rfl := oi h31; exact kZ hFn hFH hFD)))))) (fun h29 => kKn (kM (kLW h29 hFH hFD [0]))))))))))
  ·exact kEp 0 (kLx h6 (fun h32 => PJ.blockOut (kXW h32 hFH hFD [])))
 ·exact kq (kX (by obtain rfl := oi h5; exact kZ hFn hFH hFD))
structure St185 where
 a0_ : Int
 a1_ : Int
 deriving Inhabited, DecidableEq
def encSt185 (x : St185) : List SV := [.int .i64 x.a0_, .int .i64 x.a1_]
theorem encSt185_len (x : St185) : (encSt185 x).length = 2 := rfl
structure St150 where
 Op_ : Int
 Mod_ : Int
 Not_ : Bool
 R_ : List St185
 deriving Inhabited, DecidableEq
def encSt150 (x : St150) : List SV := [.int .u8 x.Op_, .int .i64 x.Mod_, .bool x.Not_, lsv encSt185 2 x.R_]
theorem encSt150_len (x : St150) : (encSt150 x).length = 4 := rfl
structure St103 where
 Cat_ : Int
 C_ : List (List St150)
 deriving Inhabited, DecidableEq
def encSt103 (x : St103) : List SV := [.int .i64 x.Cat_, lsv (encL encSt150 4) 1 x.C_]
theorem encSt103_len (x : St103) : (encSt103 x).length = 2 := rfl
structure St134 where
 a0_ : List UInt8
 a1_ : List UInt8
 a2_ : List UInt8
 a3_ : List UInt8
 a4_ : List UInt8
 a5_ : List UInt8
 deriving Inhabited, DecidableEq
def encSt134 (x : St134) : List SV := [.str x.a0_, .str x.a1_, .str x.a2_, .str x.a3_, .str x.a4_, .str x.a5_]
theorem encSt134_len (x : St134) : (encSt134 x).length = 6 := rfl
def plur_names  : Option (St134) :=
 (some (⟨([111, 116, 104, 101, 114] : List UInt8), ([122, 101, 114, 111] : List UInt8), ([111, 110, 101] : List UInt8), ([116, 119, 111] : List UInt8), ([102, 101, 119] : List UInt8), ([109, 97, 110, 121] : List UInt8)⟩ : St134))
theorem plur_names_ok  {r : St134} (h : plur_names = some r) : SC Tryz.prog 90 [] [] (.agg (encSt134 r)) [] := by
 refine kFn (fn := Tryz.f90) (fun F hFn hFH hFD => ?_)
 unfold plur_names at h
 exact kq (kq (kX (by obtain rfl := oi h; exact kZ hFn hFH hFD)))
def plur_rises (x0 x1 : Int) : Option (Bool) :=
 (Option.bind (bif (decide (x1 > x0)) then (Option.bind plur_names fun y0 => (some (decide (x1 < 6)))) else (some false)) fun (s0 : Bool) => (some s0))
theorem plur_rises_ok {x0 x1 : Int} {r : Bool} (h : plur_rises x0 x1 = some r) : SC Tryz.prog 130 [iL x0, iL x1] [] (.bool r) [] := by
 refine kFn (fn := Tryz.f130) (fun F hFn hFH hFD => ?_)
 unfold plur_rises at h
 exact kq (kcN h (fun (s0 : Bool) => ([(4, .bool s0)], [])) (fun s0 hy0 => km 4 (kB 8 hy0 (fun h1 => kc 1 (kAb 10 h1 (fun _ => plur_names_ok) (fun y0 h3 => ke 4 (kNo h3 [4])))) (fun h2 => ke 6 (kNo h2 [4])))) (fun s0 h0 => kX (by obtain rfl := oi h0; exact kZ hFn hFH hFD)))
def rule_reader__word_1 (x0 : Int) : Option (Bool) :=
 (Option.bind (bif (decide (97 ≤ x0)) then (bif (decide (x0 ≤ 122)) then (some true) else (bif (decide (65 ≤ x0)) then (some (decide (x0 ≤ 90))) else (some false))) else (bif (decide (65 ≤ x0)) then (some (decide (x0 ≤ 90))) else (some false))) fun (s0 : Bool) => (some s0))
theorem rule_reader__word_1_ok {x0 : Int} {r : Bool} (h : rule_reader__word_1 x0 = some r) : SC Tryz.prog 197 [.int .u8 x0] [] (.bool r) [] := by
 refine kFn (fn := Tryz.f197) (fun F hFn hFH hFD => ?_)
 unfold rule_reader__word_1 at h
 exact kq (kcN h (fun (s0 : Bool) => ([(2, .bool s0)], [])) (fun s0 hy0 => km 3 (kB 5 hy0 (fun h1 => kc 4 (kB 9 h1 (fun h3 => ke 8 (kNo h3 [2])) (fun h4 => kc 3 (kB 12 h4 (fun h5 => ke 5 (kNo h5 [2])) (fun h6 => ke 5 (kNo h6 [2])))))) (fun h2 => kc 7 (kB 12 h2 (fun h7 => ke 5 (kNo h7 [2])) (fun h8 => ke 5 (kNo h8 [2])))))) (fun s0 h0 => kX (by obtain rfl := oi h0; exact kZ hFn hFH hFD)))
def rule_reader__run_s0 (x0 : List UInt8) (x1 : Int) : Option ((List UInt8) × Int) :=
 (Option.bind (loopN (fun (s1 : Int) => (Option.bind (Option.bind (bif (decide (s1 < (x0.length : Int))) then (bif inR s1 x0.length then (some ((decide (((((x0.getD (s1 : Int).toNat 0).toNat : Nat) : Int)) = 32)))) else none) else (some false)) fun (s4 : Bool) => (bif s4 then (some (.inl ())) else (some (.inr (.inr s1))))) (joinX fun (s6 : Unit) => (some (.inl (IntKind.wrap .i64 (s1 + 1))))))) big x1) fun (s0 : Int) => (Option.bind (loopN (fun (s2 : Int) => (Option.bind (Option.bind (bif (decide (s2 < (x0.length : Int))) then (bif inR s2 x0.length then (Option.bind (rule_reader__word_1 ((((x0.getD (s2 : Int).toNat 0).toNat : Nat) : Int))) fun y0 => (some y0)) else none) else (some false)) fun (s5 : Bool) => (bif s5 then (some (.inl ())) else (some (.inr (.inr s2))))) (joinX fun (s7 : Unit) => (some (.inl (IntKind.wrap .i64 (s2 + 1))))))) big s0) fun (s3 : Int) => (bif inS s0 s3 x0.length then (some ((cut x0 s0 s3), s0)) else none)))
theorem rule_reader__run_s0_ok {x0 : List UInt8} {x1 : Int} {r : (List UInt8) × Int} (h : rule_reader__run_s0 x0 x1 = some r) : SC Tryz.prog 196 [.ptr 0 0, .fn (.func 197) [] []] [.box [.str x0, iL x1]] (.str r.1) [.box [.str x0, iL r.2]] := by
 refine kFn (fn := Tryz.f196) (fun F hFn hFH hFD => ?_)
 unfold rule_reader__run_s0 at h
 refine kq (kcN h (fun (s0 : Int) => ([(0, .ptr 0 0), (1, .fn (.func 197) [] []), (4, .str ([] : List UInt8))], [.box [.str x0, iL s0]])) (fun s0 hy0 => ?_) (fun s0 h0 => ?_))
 ·refine kb 0 (kl (fun (s1 : Int) => ([(0, .ptr 0 0), (1, .fn (.func 197) [] []), (4, .str ([] : List UInt8))], [.box [.str x0, iL s1]])) hy0 [0, 1, 4] (fun s1 x226 hs0 => kcX hs0 (fun (s6 : Unit) => ([(0, .ptr 0 0), (1, .fn (.func 197) [] []), (4, .str ([] : List UInt8))], [.box [.str x0, iL s1]])) (fun y1 hy1 h1 => ?_) (fun s6 h2 => ?_)))
  ·refine kcN hy1 (fun (s4 : Bool) => ([(0, .ptr 0 0), (1, .fn (.func 197) [] []), (4, .str ([] : List UInt8)), (27, .bool s4)], [.box [.str x0, iL s1]])) (fun s4 hy2 => ?_) (fun s4 h3 => ?_)
   ·refine kDr (kD 11 (kB 16 hy2 (fun h4 => ?_) (fun h5 => ?_)))
    ·refine kD 8 ?_
     obtain ⟨hm, h6⟩ := asrt h4
     exact kQ 25 (.int .u8 (((x0.getD (s1 : Int).toNat 0).toNat : Nat) : Int)) [] (tr2 := [([], []), ([], []), ([], []), ([0, 1], []), ([], []), ([], []), ([], []), ([0, 1], []), ([], []), ([], []), ([], []), ([], []), ([], []), ([], []), ([0, 1], []), ([], []), ([], []), ([], []), ([0, 1], []), ([], [])]) hm (kD 2 (kE (kNo h6 [0, 1, 4, 27])))
    ·exact kD 11 (kE (kNo h5 [0, 1, 4, 27]))
   ·exact kBT 27 h3 (fun h7 => kK (kXo h7 [0, 1, 4])) (fun h8 => kEx 0 (kCx h8 h1 (fun h9 => kLx h9 (fun h10 => PJ.blockOut (kNo h10 [0, 1, 4])))))
  ·exact kb 1 (kM (PJ.blockNormal (kLo h2 [0, 1, 4])))
 ·refine kq (kcN h0 (fun (s3 : Int) => ([(0, .ptr 0 0), (4, .str ([] : List UInt8)), (5, iL s3)], [.box [.str x0, iL s0]])) (fun s3 hy3 => ?_) (fun s3 h11 => ?_))
  ·exact kb 2 (kl (fun (s2 : Int) => ([(0, .ptr 0 0), (1, .fn (.func 197) [] []), (4, .str ([] : List UInt8)), (5, iL s2)], [.box [.str x0, iL s0]])) hy3 [0, 1, 4, 5] (fun s2 x555 hs1 => kcX hs1 (fun (s7 : Unit) => ([(0, .ptr 0 0), (1, .fn (.func 197) [] []), (4, .str ([] : List UInt8)), (5, iL s2)], [.box [.str x0, iL s0]])) (fun y2 hy4 h12 => kcN hy4 (fun (s5 : Bool) => ([(0, .ptr 0 0), (1, .fn (.func 197) [] []), (4, .str ([] : List UInt8)), (5, iL s2), (55, .bool s5)], [.box [.str x0, iL s0]])) (fun s5 hy5 => km 8 (kB 46 hy5 (fun h15 => kc 6 (kGb 53 h15 (fun h17 => kAb 54 h17 (fun _ => rule_reader__word_1_ok) (fun y0 h18 => ke 1 (kNo h18 [0, 1, 4, 5, 55]))))) (fun h16 => ke 9 (kNo h16 [0, 1, 4, 5, 55])))) (fun s5 h14 => kBT 55 h14 (fun h19 => kK (kXo h19 [0, 1, 4, 5])) (fun h20 => kEx 2 (kCx h20 h12 (fun h21 => kLx h21 (fun h22 => PJ.blockOut (kNo h22 [0, 4, 5]))))))) (fun s7 h13 => kb 3 (kM (PJ.blockNormal (kLo h13 [0, 1, 4, 5]))))))
  ·refine kS (kDr (kD 9 ?_))
   obtain ⟨hm, h23⟩ := asrt h11
   exact kQ 67 (.str (cut x0 s0 s3)) [] (tr2 := [([], []), ([], []), ([], []), ([0, 1], []), ([], []), ([], []), ([], []), ([0, 1], []), ([], []), ([], [])]) hm (kD 1 (kEN (kX (by obtain rfl := oi h23; exact kRV [0] (.inr rfl) hFn hFH hFD))))
def rule_reader__word_s0 (x0 : List UInt8) (x1 : Int) : Option ((List UInt8) × Int) :=
 (Option.bind (rule_reader__run_s0 x0 x1) fun y0 => (some (y0.1, y0.2)))
theorem rule_reader__word_s0_ok {x0 : List UInt8} {x1 : Int} {r : (List UInt8) × Int} (h : rule_reader__word_s0 x0 x1 = some r) : SC Tryz.prog 175 [.ptr 0 0] [.box [.str x0, iL x1]] (.str r.1) [.box [.str x0, iL r.2]] := by
 refine kFn (fn := Tryz.f175) (fun F hFn hFH hFD => ?_)
 unfold rule_reader__word_s0 at h
 refine kq (kn 1 ?_)
 obtain ⟨y0, hy0, h0⟩ := bindS h
 exact kCg (some 4) [0] (rule_reader__run_s0_ok hy0) (kr 1 (kX (by obtain rfl := oi h0; exact kRV [0] (.inr rfl) hFn hFH hFD)))
def idxRen : Go.Shelf.Ren := ⟨fun x => match x with | 217 => 220 | 266 => 229 | n => n, fun x => x, fun x => x⟩
theorem idx_lays : Lays.n217 Tryz.prog idxRen := by
 constructor <;> first | kernel_rfl | (intro w; kernel_rfl) | (intro w; rfl)
def stringslite_IndexByte (x0 : List UInt8) (x1 : Int) : Option (Int) :=
 (some (Lib.indexByte x0 x1.toNat.toUInt8))
theorem stringslite_IndexByte_ok {x0 : List UInt8} {x1 r : Int} (h : stringslite_IndexByte x0 x1 = some r) : SC Tryz.prog 220 [.str x0, .int .u8 x1] [] (iL r) [] := by
 exact by obtain rfl := oi h; exact SC.byteIdx (by kernel_rfl) (fun b c w => Any.stringslite_IndexByte idx_lays b c w)
def stringslite_Index (x0 x1 : List UInt8) : Option (Int) :=
 (Option.bind (bif (decide ((x1.length : Int) = 0)) then (some true) else (some (x1 == x0))) fun (s0 : Bool) => (bif s0 then (some 0) else (bif (decide ((x1.length : Int) = 1)) then (bif inR 0 x1.length then (Option.bind (stringslite_IndexByte x0 ((((x1.getD (0 : Int).toNat 0).toNat : Nat) : Int))) fun y0 => (some y0)) else none) else (bif (decide ((x1.length : Int) ≥ (x0.length : Int))) then (some (-1)) else none))))
theorem stringslite_Index_ok {x0 x1 : List UInt8} {r : Int} (h : stringslite_Index x0 x1 = some r) : SC Tryz.prog 214 [.str x0, .str x1] [] (iL r) [] := by
 refine kFn (fn := Tryz.f214) (fun F hFn hFH hFD => ?_)
 unfold stringslite_Index at h
 refine kq (kq (kS (kb 0 (kcN h (fun (s0 : Bool) => ([(0, .str x0), (1, .str x1), (4, iL 0), (5, iL (x1.length : Int)), (16, .bool s0)], [])) (fun s0 hy0 => ?_) (fun s0 h0 => ?_)))))
 ·exact km 3 (kB 19 hy0 (fun h1 => ke 5 (kNo h1 [0, 1, 4, 5, 16])) (fun h2 => ke 5 (kNo h2 [0, 1, 4, 5, 16])))
 ·refine kBT 16 h0 (fun h3 => ?_) (fun h4 => ?_)
  ·exact kq (kXp (by obtain rfl := oi h3; exact kZ hFn hFH hFD))
  ·refine kq (kBT 24 h4 (fun h5 => ?_) (fun h6 => ?_))
   ·exact kn 2 (kGb 29 h5 (fun h7 => kAb 30 h7 (fun _ => stringslite_IndexByte_ok) (fun y0 h8 => kr 1 (kXp (by obtain rfl := oi h8; exact kZ hFn hFH hFD)))))
   ·refine kq (kBT 31 h6 (fun h9 => ?_) (fun h10 => ?_))
    ·exact kq (kXp (by obtain rfl := oi h9; exact kZ hFn hFH hFD))
    ·refine kSR ?_
     cases h10
def strings_Index (x0 x1 : List UInt8) : Option (Int) :=
 (Option.bind (stringslite_Index x0 x1) fun y0 => (some y0))
theorem strings_Index_ok {x0 x1 : List UInt8} {r : Int} (h : strings_Index x0 x1 = some r) : SC Tryz.prog 209 [.str x0, .str x1] [] (iL r) [] := by
 refine kFn (fn := Tryz.f209) (fun F hFn hFH hFD => ?_)
 unfold strings_Index at h
 exact kq (kn 2 (kAb 7 h (fun _ => stringslite_Index_ok) (fun y0 h0 => kr 1 (kX (by obtain rfl := oi h0; exact kZ hFn hFH hFD)))))
def strings_Contains (x0 x1 : List UInt8) : Option (Bool) :=
 (Option.bind (strings_Index x0 x1) fun y0 => (some (decide (y0 ≥ 0))))
theorem strings_Contains_ok {x0 x1 : List UInt8} {r : Bool} (h : strings_Contains x0 x1 = some r) : SC Tryz.prog 205 [.str x0, .str x1] [] (.bool r) [] := by
 refine kFn (fn := Tryz.f205) (fun F hFn hFH hFD => ?_)
 unfold strings_Contains at h
 exact kq (kn 2 (kAb 7 h (fun _ => strings_Index_ok) (fun y0 h0 => kr 2 (kX (by obtain rfl := oi h0; exact kZ hFn hFH hFD)))))
def rule_reader__operand_s0 (x0 : List UInt8) (x1 x2 x3 : Int) (x4 : Bool) : Option (Bool × Int × Int) :=
 (Option.bind (rule_reader__word_s0 x0 x1) fun y0 => (Option.bind (Option.bind (bif (decide (¬ (y0.1.length : Int) = 1)) then (some true) else (Option.bind (strings_Contains ([110, 105, 118, 119, 102, 116, 99, 101] : List UInt8) y0.1) fun y1 => (some (!y1)))) fun (s0 : Bool) => (bif s0 then (some (.inr (false, y0.2, x2))) else (some (.inl ())))) (joinX fun (s1 : Unit) => (bif inR 0 y0.1.length then (some (true, (IntKind.wrap .i64 (y0.2 + 1)), (((y0.1.getD (0 : Int).toNat 0).toNat : Nat) : Int))) else none))))
theorem rule_reader__operand_s0_ok {x0 : List UInt8} {x1 x2 x3 : Int} {x4 : Bool} {r : Bool × Int × Int} (h : rule_reader__operand_s0 x0 x1 x2 x3 x4 = some r) : SC Tryz.prog 192 [.ptr 0 0, .ptr 1 0] [.box [.str x0, iL x1], .box [.int .u8 x2, iL x3, .bool x4, .nl]] (.bool r.1) [.box [.str x0, iL r.2.1], .box [.int .u8 r.2.2, iL x3, .bool x4, .nl]] := by
 refine kFn (fn := Tryz.f192) (fun F hFn hFH hFD => ?_)
 unfold rule_reader__operand_s0 at h
 refine kq (kn 1 ?_)
 obtain ⟨y0, hy0, h0⟩ := bindS h
 exact kCg (some 7) [0] (rule_reader__word_s0_ok hy0) (kr 1 (kcX h0 (fun (s1 : Unit) => ([(0, .ptr 0 0), (1, .ptr 1 0), (4, .bool false), (5, .str y0.1)], [.box [.str x0, iL y0.2], .box [.int .u8 x2, iL x3, .bool x4, .nl]])) (fun y2 hy1 h1 => kcN hy1 (fun (s0 : Bool) => ([(0, .ptr 0 0), (1, .ptr 1 0), (4, .bool false), (5, .str y0.1), (15, .bool s0)], [.box [.str x0, iL y0.2], .box [.int .u8 x2, iL x3, .bool x4, .nl]])) (fun s0 hy2 => km 4 (kB 11 hy2 (fun h4 => ke 4 (kNo h4 [0, 1, 4, 5, 15])) (fun h5 => kc 1 (kAb 13 h5 (fun _ => strings_Contains_ok) (fun y1 h6 => ke 2 (kNo h6 [0, 1, 4, 5, 15])))))) (fun s0 h3 => kBT 15 h3 (fun h7 => kq (kX (kCx h7 h1 (fun h9 => by obtain rfl := oi h9; exact kRV [0, 1] (.inr rfl) hFn hFH hFD)))) (fun h8 => kK (kXo h8 [0, 1, 4, 5])))) (fun s1 h2 => kn 2 (kGb 18 h2 (fun h10 => kr 3 (kq (kq (kX (by obtain rfl := oi h10; exact kRV [0, 1] (.inr rfl) hFn hFH hFD)))))))))
def rule_reader__eat_1 (x0 : Int) : Option (Bool) :=
 (some false)
theorem rule_reader__eat_1_ok {x0 : Int} {r : Bool} (h : rule_reader__eat_1 x0 = some r) : SC Tryz.prog 210 [.int .u8 x0] [] (.bool r) [] := by
 refine kFn (fn := Tryz.f210) (fun F hFn hFH hFD => ?_)
 unfold rule_reader__eat_1 at h
 exact kq (kq (kX (by obtain rfl := oi h; exact kZ hFn hFH hFD)))
def rule_reader__run_s1 (x0 : List UInt8) (x1 : Int) : Option ((List UInt8) × Int) :=
 (Option.bind (loopN (fun (s1 : Int) => (Option.bind (Option.bind (bif (decide (s1 < (x0.length : Int))) then (bif inR s1 x0.length then (some ((decide (((((x0.getD (s1 : Int).toNat 0).toNat : Nat) : Int)) = 32)))) else none) else (some false)) fun (s4 : Bool) => (bif s4 then (some (.inl ())) else (some (.inr (.inr s1))))) (joinX fun (s6 : Unit) => (some (.inl (IntKind.wrap .i64 (s1 + 1))))))) big x1) fun (s0 : Int) => (Option.bind (loopN (fun (s2 : Int) => (Option.bind (Option.bind (bif (decide (s2 < (x0.length : Int))) then (bif inR s2 x0.length then (Option.bind (rule_reader__eat_1 ((((x0.getD (s2 : Int).toNat 0).toNat : Nat) : Int))) fun y0 => (some y0)) else none) else (some false)) fun (s5 : Bool) => (bif s5 then (some (.inl ())) else (some (.inr (.inr s2))))) (joinX fun (s7 : Unit) => (some (.inl (IntKind.wrap .i64 (s2 + 1))))))) big s0) fun (s3 : Int) => (bif inS s0 s3 x0.length then (some ((cut x0 s0 s3), s0)) else none)))
theorem rule_reader__run_s1_ok {x0 : List UInt8} {x1 : Int} {r : (List UInt8) × Int} (h : rule_reader__run_s1 x0 x1 = some r) : SC Tryz.prog 196 [.ptr 0 0, .fn (.func 210) [] []] [.box [.str x0, iL x1]] (.str r.1) [.box [.str x0, iL r.2]] := by
 refine kFn (fn := Tryz.f196) (fun F hFn hFH hFD => ?_)
 unfold rule_reader__run_s1 at h
 refine kq (kcN h (fun (s0 : Int) => ([(0, .ptr 0 0), (1, .fn (.func 210) [] []), (4, .str ([] : List UInt8))], [.box [.str x0, iL s0]])) (fun s0 hy0 => ?_) (fun s0 h0 => ?_))
 ·refine kb 0 (kl (fun (s1 : Int) => ([(0, .ptr 0 0), (1, .fn (.func 210) [] []), (4, .str ([] : List UInt8))], [.box [.str x0, iL s1]])) hy0 [0, 1, 4] (fun s1 x226 hs0 => kcX hs0 (fun (s6 : Unit) => ([(0, .ptr 0 0), (1, .fn (.func 210) [] []), (4, .str ([] : List UInt8))], [.box [.str x0, iL s1]])) (fun y1 hy1 h1 => ?_) (fun s6 h2 => ?_)))
  ·refine kcN hy1 (fun (s4 : Bool) => ([(0, .ptr 0 0), (1, .fn (.func 210) [] []), (4, .str ([] : List UInt8)), (27, .bool s4)], [.box [.str x0, iL s1]])) (fun s4 hy2 => ?_) (fun s4 h3 => ?_)
   ·refine kDr (kD 11 (kB 16 hy2 (fun h4 => ?_) (fun h5 => ?_)))
    ·refine kD 8 ?_
     obtain ⟨hm, h6⟩ := asrt h4
     exact kQ 25 (.int .u8 (((x0.getD (s1 : Int).toNat 0).toNat : Nat) : Int)) [] (tr2 := [([], []), ([], []), ([], []), ([0, 1], []), ([], []), ([], []), ([], []), ([0, 1], []), ([], []), ([], []), ([], []), ([], []), ([], []), ([], []), ([0, 1], []), ([], []), ([], []), ([], []), ([0, 1], []), ([], [])]) hm (kD 2 (kE (kNo h6 [0, 1, 4, 27])))
    ·exact kD 11 (kE (kNo h5 [0, 1, 4, 27]))
   ·exact kBT 27 h3 (fun h7 => kK (kXo h7 [0, 1, 4])) (fun h8 => kEx 0 (kCx h8 h1 (fun h9 => kLx h9 (fun h10 => PJ.blockOut (kNo h10 [0, 1, 4])))))
  ·exact kb 1 (kM (PJ.blockNormal (kLo h2 [0, 1, 4])))
 ·refine kq (kcN h0 (fun (s3 : Int) => ([(0, .ptr 0 0), (4, .str ([] : List UInt8)), (5, iL s3)], [.box [.str x0, iL s0]])) (fun s3 hy3 => ?_) (fun s3 h11 => ?_))
  ·exact kb 2 (kl (fun (s2 : Int) => ([(0, .ptr 0 0), (1, .fn (.func 210) [] []), (4, .str ([] : List UInt8)), (5, iL s2)], [.box [.str x0, iL s0]])) hy3 [0, 1, 4, 5] (fun s2 x555 hs1 => kcX hs1 (fun (s7 : Unit) => ([(0, .ptr 0 0), (1, .fn (.func 210) [] []), (4, .str ([] : List UInt8)), (5, iL s2)], [.box [.str x0, iL s0]])) (fun y2 hy4 h12 => kcN hy4 (fun (s5 : Bool) => ([(0, .ptr 0 0), (1, .fn (.func 210) [] []), (4, .str ([] : List UInt8)), (5, iL s2), (55, .bool s5)], [.box [.str x0, iL s0]])) (fun s5 hy5 => km 8 (kB 46 hy5 (fun h15 => kc 6 (kGb 53 h15 (fun h17 => kAb 54 h17 (fun _ => rule_reader__eat_1_ok) (fun y0 h18 => ke 1 (kNo h18 [0, 1, 4, 5, 55]))))) (fun h16 => ke 9 (kNo h16 [0, 1, 4, 5, 55])))) (fun s5 h14 => kBT 55 h14 (fun h19 => kK (kXo h19 [0, 1, 4, 5])) (fun h20 => kEx 2 (kCx h20 h12 (fun h21 => kLx h21 (fun h22 => PJ.blockOut (kNo h22 [0, 4, 5]))))))) (fun s7 h13 => kb 3 (kM (PJ.blockNormal (kLo h13 [0, 1, 4, 5]))))))
  ·refine kS (kDr (kD 9 ?_))
   obtain ⟨hm, h23⟩ := asrt h11
   exact kQ 67 (.str (cut x0 s0 s3)) [] (tr2 := [([], []), ([], []), ([], []), ([0, 1], []), ([], []), ([], []), ([], []), ([0, 1], []), ([], []), ([], [])]) hm (kD 1 (kEN (kX (by obtain rfl := oi h23; exact kRV [0] (.inr rfl) hFn hFH hFD))))
def stringslite_HasPrefix (x0 x1 : List UInt8) : Option (Bool) :=
 (Option.bind (bif (decide ((x0.length : Int) ≥ (x1.length : Int))) then (bif inS 0 (x1.length : Int) x0.length then (some (((cut x0 0 (x1.length : Int)) == x1))) else none) else (some false)) fun (s0 : Bool) => (some s0))
theorem stringslite_HasPrefix_ok {x0 x1 : List UInt8} {r : Bool} (h : stringslite_HasPrefix x0 x1 = some r) : SC Tryz.prog 215 [.str x0, .str x1] [] (.bool r) [] := by
 refine kFn (fn := Tryz.f215) (fun F hFn hFH hFD => ?_)
 unfold stringslite_HasPrefix at h
 refine kq (kcN h (fun (s0 : Bool) => ([(4, .bool s0)], [])) (fun s0 hy0 => ?_) (fun s0 h0 => ?_))
 ·refine km 6 (kB 10 hy0 (fun h1 => ?_) (fun h2 => ?_))
  ·refine kc 3 ?_
   obtain ⟨hm, h3⟩ := asrt h1
   exact kQ 14 (.str (cut x0 0 (x1.length : Int))) [] (tr2 := []) hm (ke 4 (kNo h3 [4]))
  ·exact ke 8 (kNo h2 [4])
 ·exact kX (by obtain rfl := oi h0; exact kZ hFn hFH hFD)
def strings_HasPrefix (x0 x1 : List UInt8) : Option (Bool) :=
 (Option.bind (stringslite_HasPrefix x0 x1) fun y0 => (some y0))
theorem strings_HasPrefix_ok {x0 x1 : List UInt8} {r : Bool} (h : strings_HasPrefix x0 x1 = some r) : SC Tryz.prog 211 [.str x0, .str x1] [] (.bool r) [] := by
 refine kFn (fn := Tryz.f211) (fun F hFn hFH hFD => ?_)
 unfold strings_HasPrefix at h
 exact kq (kn 2 (kAb 7 h (fun _ => stringslite_HasPrefix_ok) (fun y0 h0 => kr 1 (kX (by obtain rfl := oi h0; exact kZ hFn hFH hFD)))))
def rule_reader__eat_s0 (x0 x1 : List UInt8) (x2 : Int) : Option (Bool × Int) :=
 (Option.bind (rule_reader__run_s1 x1 x2) fun y0 => (bif inS y0.2 (x1.length : Int) x1.length then (Option.bind (strings_HasPrefix (cut x1 y0.2 (x1.length : Int)) x0) fun y1 => (bif (!y1) then (some (false, y0.2)) else (some (true, (IntKind.wrap .i64 (y0.2 + (x0.length : Int))))))) else none))
theorem rule_reader__eat_s0_ok {x0 x1 : List UInt8} {x2 : Int} {r : Bool × Int} (h : rule_reader__eat_s0 x0 x1 x2 = some r) : SC Tryz.prog 206 [.ptr 0 0, .str x0] [.box [.str x1, iL x2]] (.bool r.1) [.box [.str x1, iL r.2]] := by
 refine kFn (fn := Tryz.f206) (fun F hFn hFH hFD => ?_)
 unfold rule_reader__eat_s0 at h
 refine kq (kn 1 ?_)
 obtain ⟨y0, hy0, h0⟩ := bindS h
 refine kCg (some 6) [0] (rule_reader__run_s1_ok hy0) (kEN (kS (kS (kDr (kD 8 ?_)))))
 obtain ⟨hm, h1⟩ := asrt h0
 refine kQ 15 (.str (cut x1 y0.2 (x1.length : Int))) [] (tr2 := [([], []), ([], []), ([], []), ([0, 1], []), ([], []), ([], []), ([], []), ([0, 1], []), ([], [])]) hm (kD 1 ?_)
 obtain ⟨y1, hy1, h2⟩ := bindS h1
 exact RJ.call0 (d := (some 17)) (f := 211) (args := [.str (cut x1 y0.2 (x1.length : Int)), .str x0]) (v := .bool y1) (tr2 := [([], []), ([], []), ([], []), ([0, 1], []), ([], []), ([], []), ([], []), ([0, 1], []), ([], []), ([], []), ([], [2, 3])]) (by kernel_rfl) (by kernel_rfl) (.cons (Le.refl _) (.cons (Le.refl _) .nil)) (strings_HasPrefix_ok hy1) (by kernel_rfl) (kD 1 (kEN (kBT 18 h2 (fun h3 => kq (kX (PJ.passRet (by obtain rfl := oi h3; exact kRV [0] (.inr rfl) hFn hFH hFD)))) (fun h4 => kKN (kq (kq (kX (by obtain rfl := oi h4; exact kRV [0] (.inr rfl) hFn hFH hFD))))))))
def rule_reader__number_1 (x0 : Int) : Option (Bool) :=
 (Option.bind (bif (decide (48 ≤ x0)) then (some (decide (x0 ≤ 57))) else (some false)) fun (s0 : Bool) => (some s0))
theorem rule_reader__number_1_ok {x0 : Int} {r : Bool} (h : rule_reader__number_1 x0 = some r) : SC Tryz.prog 212 [.int .u8 x0] [] (.bool r) [] := by
 refine kFn (fn := Tryz.f212) (fun F hFn hFH hFD => ?_)
 unfold rule_reader__number_1 at h
 exact kq (kcN h (fun (s0 : Bool) => ([(2, .bool s0)], [])) (fun s0 hy0 => km 3 (kB 5 hy0 (fun h1 => ke 4 (kNo h1 [2])) (fun h2 => ke 4 (kNo h2 [2])))) (fun s0 h0 => kX (by obtain rfl := oi h0; exact kZ hFn hFH hFD)))
def rule_reader__run_s2 (x0 : List UInt8) (x1 : Int) : Option ((List UInt8) × Int) :=
 (Option.bind (loopN (fun (s1 : Int) => (Option.bind (Option.bind (bif (decide (s1 < (x0.length : Int))) then (bif inR s1 x0.length then (some ((decide (((((x0.getD (s1 : Int).toNat 0).toNat : Nat) : Int)) = 32)))) else none) else (some false)) fun (s4 : Bool) => (bif s4 then (some (.inl ())) else (some (.inr (.inr s1))))) (joinX fun (s6 : Unit) => (some (.inl (IntKind.wrap .i64 (s1 + 1))))))) big x1) fun (s0 : Int) => (Option.bind (loopN (fun (s2 : Int) => (Option.bind (Option.bind (bif (decide (s2 < (x0.length : Int))) then (bif inR s2 x0.length then (Option.bind (rule_reader__number_1 ((((x0.getD (s2 : Int).toNat 0).toNat : Nat) : Int))) fun y0 => (some y0)) else none) else (some false)) fun (s5 : Bool) => (bif s5 then (some (.inl ())) else (some (.inr (.inr s2))))) (joinX fun (s7 : Unit) => (some (.inl (IntKind.wrap .i64 (s2 + 1))))))) big s0) fun (s3 : Int) => (bif inS s0 s3 x0.length then (some ((cut x0 s0 s3), s0)) else none)))
theorem rule_reader__run_s2_ok {x0 : List UInt8} {x1 : Int} {r : (List UInt8) × Int} (h : rule_reader__run_s2 x0 x1 = some r) : SC Tryz.prog 196 [.ptr 0 0, .fn (.func 212) [] []] [.box [.str x0, iL x1]] (.str r.1) [.box [.str x0, iL r.2]] := by
 refine kFn (fn := Tryz.f196) (fun F hFn hFH hFD => ?_)
 unfold rule_reader__run_s2 at h
 refine kq (kcN h (fun (s0 : Int) => ([(0, .ptr 0 0), (1, .fn (.func 212) [] []), (4, .str ([] : List UInt8))], [.box [.str x0, iL s0]])) (fun s0 hy0 => ?_) (fun s0 h0 => ?_))
 ·refine kb 0 (kl (fun (s1 : Int) => ([(0, .ptr 0 0), (1, .fn (.func 212) [] []), (4, .str ([] : List UInt8))], [.box [.str x0, iL s1]])) hy0 [0, 1, 4] (fun s1 x226 hs0 => kcX hs0 (fun (s6 : Unit) => ([(0, .ptr 0 0), (1, .fn (.func 212) [] []), (4, .str ([] : List UInt8))], [.box [.str x0, iL s1]])) (fun y1 hy1 h1 => ?_) (fun s6 h2 => ?_)))
  ·refine kcN hy1 (fun (s4 : Bool) => ([(0, .ptr 0 0), (1, .fn (.func 212) [] []), (4, .str ([] : List UInt8)), (27, .bool s4)], [.box [.str x0, iL s1]])) (fun s4 hy2 => ?_) (fun s4 h3 => ?_)
   ·refine kDr (kD 11 (kB 16 hy2 (fun h4 => ?_) (fun h5 => ?_)))
    ·refine kD 8 ?_
     obtain ⟨hm, h6⟩ := asrt h4
     exact kQ 25 (.int .u8 (((x0.getD (s1 : Int).toNat 0).toNat : Nat) : Int)) [] (tr2 := [([], []), ([], []), ([], []), ([0, 1], []), ([], []), ([], []), ([], []), ([0, 1], []), ([], []), ([], []), ([], []), ([], []), ([], []), ([], []), ([0, 1], []), ([], []), ([], []), ([], []), ([0, 1], []), ([], [])]) hm (kD 2 (kE (kNo h6 [0, 1, 4, 27])))
    ·exact kD 11 (kE (kNo h5 [0, 1, 4, 27]))
   ·exact kBT 27 h3 (fun h7 => kK (kXo h7 [0, 1, 4])) (fun h8 => kEx 0 (kCx h8 h1 (fun h9 => kLx h9 (fun h10 => PJ.blockOut (kNo h10 [0, 1, 4])))))
  ·exact kb 1 (kM (PJ.blockNormal (kLo h2 [0, 1, 4])))
 ·refine kq (kcN h0 (fun (s3 : Int) => ([(0, .ptr 0 0), (4, .str ([] : List UInt8)), (5, iL s3)], [.box [.str x0, iL s0]])) (fun s3 hy3 => ?_) (fun s3 h11 => ?_))
  ·exact kb 2 (kl (fun (s2 : Int) => ([(0, .ptr 0 0), (1, .fn (.func 212) [] []), (4, .str ([] : List UInt8)), (5, iL s2)], [.box [.str x0, iL s0]])) hy3 [0, 1, 4, 5] (fun s2 x555 hs1 => kcX hs1 (fun (s7 : Unit) => ([(0, .ptr 0 0), (1, .fn (.func 212) [] []), (4, .str ([] : List UInt8)), (5, iL s2)], [.box [.str x0, iL s0]])) (fun y2 hy4 h12 => kcN hy4 (fun (s5 : Bool) => ([(0, .ptr 0 0), (1, .fn (.func 212) [] []), (4, .str ([] : List UInt8)), (5, iL s2), (55, .bool s5)], [.box [.str x0, iL s0]])) (fun s5 hy5 => km 8 (kB 46 hy5 (fun h15 => kc 6 (kGb 53 h15 (fun h17 => kAb 54 h17 (fun _ => rule_reader__number_1_ok) (fun y0 h18 => ke 1 (kNo h18 [0, 1, 4, 5, 55]))))) (fun h16 => ke 9 (kNo h16 [0, 1, 4, 5, 55])))) (fun s5 h14 => kBT 55 h14 (fun h19 => kK (kXo h19 [0, 1, 4, 5])) (fun h20 => kEx 2 (kCx h20 h12 (fun h21 => kLx h21 (fun h22 => PJ.blockOut (kNo h22 [0, 4, 5]))))))) (fun s7 h13 => kb 3 (kM (PJ.blockNormal (kLo h13 [0, 1, 4, 5]))))))
  ·refine kS (kDr (kD 9 ?_))
   obtain ⟨hm, h23⟩ := asrt h11
   exact kQ 67 (.str (cut x0 s0 s3)) [] (tr2 := [([], []), ([], []), ([], []), ([0, 1], []), ([], []), ([], []), ([], []), ([0, 1], []), ([], []), ([], [])]) hm (kD 1 (kEN (kX (by obtain rfl := oi h23; exact kRV [0] (.inr rfl) hFn hFH hFD))))
def rule_reader__number_s0 (x0 : Int) (x1 : List UInt8) (x2 : Int) : Option (Int × Bool × Int) :=
 (Option.bind (rule_reader__run_s2 x1 x2) fun y0 => (Option.bind (Option.bind (bif (decide ((y0.1.length : Int) = 0)) then (some true) else (bif (decide ((y0.1.length : Int) > 9)) then (some true) else (bif (decide ((y0.1.length : Int) > 1)) then (bif inR 0 y0.1.length then (some ((decide (((((y0.1.getD (0 : Int).toNat 0).toNat : Nat) : Int)) = 48)))) else none) else (some false)))) fun (s2 : Bool) => (bif s2 then (some (.inr (0, false, y0.2))) else (some (.inl ())))) (joinX fun (s3 : Unit) => (Option.bind (loopN (fun (s0 : Int × Int) => (bif (decide (s0.2 < ((bytesI y0.1).length : Int))) then (bif inR s0.2 (bytesI y0.1).length then (some (.inl ((IntKind.wrap .i64 ((IntKind.wrap .i64 (s0.1 * 10)) + ((IntKind.wrap .i64 ((IntKind.wrap .u8 ((nth (bytesI y0.1) s0.2) - 48))))))), (IntKind.wrap .i64 (s0.2 + 1))))) else none) else (some (.inr s0.1)))) big (0, 0)) fun (s1 : Int) => (bif (decide (s1 < x0)) then (some (0, false, y0.2)) else (some (s1, true, (IntKind.wrap .i64 (y0.2 + (y0.1.length : Int))))))))))
theorem rule_reader__number_s0_ok {x0 : Int} {x1 : List UInt8} {x2 : Int} {r : Int × Bool × Int} (h : rule_reader__number_s0 x0 x1 x2 = some r) : SC Tryz.prog 207 [.ptr 0 0, iL x0] [.box [.str x1, iL x2]] (.tup [iL r.1, .bool r.2.1]) [.box [.str x1, iL r.2.2]] := by
 refine kFn (fn := Tryz.f207) (fun F hFn hFH hFD => ?_)
 unfold rule_reader__number_s0 at h
 refine kq (kn 1 ?_)
 obtain ⟨y0, hy0, h0⟩ := bindS h
 exact kCg (some 11) [0] (rule_reader__run_s2_ok hy0) (kr 1 (kcX h0 (fun (s3 : Unit) => ([(0, .ptr 0 0), (1, iL x0), (4, iL 0), (5, .bool false), (6, .str y0.1)], [.box [.str x1, iL y0.2]])) (fun y1 hy1 h1 => kcN hy1 (fun (s2 : Bool) => ([(0, .ptr 0 0), (1, iL x0), (4, iL 0), (5, .bool false), (6, .str y0.1), (29, .bool s2)], [.box [.str x1, iL y0.2]])) (fun s2 hy2 => km 4 (kB 15 hy2 (fun h4 => ke 14 (kNo h4 [0, 1, 4, 5, 6, 29])) (fun h5 => kc 5 (kB 20 h5 (fun h6 => ke 9 (kNo h6 [0, 1, 4, 5, 6, 29])) (fun h7 => kc 4 (kB 24 h7 (fun h8 => kc 1 (kGb 26 h8 (fun h10 => ke 3 (kNo h10 [0, 1, 4, 5, 6, 29])))) (fun h9 => ke 5 (kNo h9 [0, 1, 4, 5, 6, 29])))))))) (fun s2 h3 => kBT 29 h3 (fun h11 => kq (kX (kCx h11 h1 (fun h13 => by obtain rfl := oi h13; exact kRV [0] (.inr rfl) hFn hFH hFD)))) (fun h12 => kK (kXo h12 [0, 1, 4, 5, 6])))) (fun s3 h2 => kq (kcN h2 (fun (s1 : Int) => ([(0, .ptr 0 0), (1, iL x0), (4, iL 0), (5, .bool false), (6, .str y0.1), (7, iL s1)], [.box [.str x1, iL y0.2]])) (fun s1 hy3 => kn 1 (RJ.rel (d := (some 31)) (ef := ⟨.lst y0.1.length 1 (y0.1.map byteSV), [], []⟩) (ef' := ⟨lB (bytesI y0.1), [], []⟩) (c := true) (tr2 := []) (H2 := [.box [.str x1, iL y0.2]]) (by kernel_rfl) rfl (fun hc => N.toBytes) (by kernel_rfl) (kr 2 (kb 0 (kl (fun (s0 : Int × Int) => ([(0, .ptr 0 0), (1, iL x0), (4, iL 0), (5, .bool false), (6, .str y0.1), (7, iL s0.1), (31, lB (bytesI y0.1)), (32, iL ((bytesI y0.1).length : Int)), (33, iL s0.2)], [.box [.str x1, iL y0.2]])) hy3 [0, 1, 4, 5, 6, 7, 31, 32, 33] (fun s0 x107 hs0 => kq (kS (kBT 34 hs0 (fun h15 => kKN (kS (kb 1 (kSR (kIb 35 (encI_len .u8) h15 (fun h17 => kr 2 (kM (PJ.blockNormal (PJ.next (kM (kLo h17 [0, 1, 4, 5, 6, 7, 31, 32, 33]))))))))))) (fun h16 => kEp 0 (kLx h16 (fun h18 => PJ.blockOut (kNo h18 [0, 1, 4, 5, 6, 7])))))))))))) (fun s1 h14 => kS (kq (kBT 46 h14 (fun h19 => kq (kX (PJ.passRet (by obtain rfl := oi h19; exact kRV [0] (.inr rfl) hFn hFH hFD)))) (fun h20 => kKN (kq (kq (kX (by obtain rfl := oi h20; exact kRV [0] (.inr rfl) hFn hFH hFD))))))))))))
def rule_reader__mod_s0 (x0 : List UInt8) (x1 x2 x3 : Int) (x4 : Bool) : Option (Bool × Int × Int) :=
 (Option.bind (rule_reader__eat_s0 ([37] : List UInt8) x0 x1) fun y0 => (bif (!y0.1) then (some (true, y0.2, x3)) else (Option.bind (rule_reader__number_s0 1 x0 y0.2) fun y1 => (some (y1.2.1, y1.2.2, y1.1)))))
theorem rule_reader__mod_s0_ok {x0 : List UInt8} {x1 x2 x3 : Int} {x4 : Bool} {r : Bool × Int × Int} (h : rule_reader__mod_s0 x0 x1 x2 x3 x4 = some r) : SC Tryz.prog 193 [.ptr 0 0, .ptr 1 0] [.box [.str x0, iL x1], .box [.int .u8 x2, iL x3, .bool x4, .nl]] (.bool r.1) [.box [.str x0, iL r.2.1], .box [.int .u8 x2, iL r.2.2, .bool x4, .nl]] := by
 refine kFn (fn := Tryz.f193) (fun F hFn hFH hFD => ?_)
 unfold rule_reader__mod_s0 at h
 refine kq (kS (kn 1 ?_))
 obtain ⟨y0, hy0, h0⟩ := bindS h
 refine kCg (some 7) [0] (rule_reader__eat_s0_ok hy0) (kr 1 (kBT 8 h0 (fun h1 => ?_) (fun h2 => ?_)))
 ·exact kq (kX (PJ.passRet (by obtain rfl := oi h1; exact kRV [0, 1] (.inr rfl) hFn hFH hFD)))
 ·refine kKN (kq (kn 2 ?_))
  obtain ⟨y1, hy1, h3⟩ := bindS h2
  exact kCg (some 12) [0] (rule_reader__number_s0_ok hy1) (kr 7 (kq (kX (by obtain rfl := oi h3; exact kRV [0, 1] (.inr rfl) hFn hFH hFD))))
def rule_reader__sign_s0 (x0 : List UInt8) (x1 x2 x3 : Int) (x4 : Bool) : Option (Bool × Int × Bool) :=
 (Option.bind (rule_reader__eat_s0 ([61] : List UInt8) x0 x1) fun y0 => (bif y0.1 then (some (true, y0.2, x4)) else (Option.bind (rule_reader__eat_s0 ([33, 61] : List UInt8) x0 y0.2) fun y1 => (some (y1.1, y1.2, y1.1)))))
theorem rule_reader__sign_s0_ok {x0 : List UInt8} {x1 x2 x3 : Int} {x4 : Bool} {r : Bool × Int × Bool} (h : rule_reader__sign_s0 x0 x1 x2 x3 x4 = some r) : SC Tryz.prog 194 [.ptr 0 0, .ptr 1 0] [.box [.str x0, iL x1], .box [.int .u8 x2, iL x3, .bool x4, .nl]] (.bool r.1) [.box [.str x0, iL r.2.1], .box [.int .u8 x2, iL x3, .bool r.2.2, .nl]] := by
 refine kFn (fn := Tryz.f194) (fun F hFn hFH hFD => ?_)
 unfold rule_reader__sign_s0 at h
 refine kq (kS (kn 1 ?_))
 obtain ⟨y0, hy0, h0⟩ := bindS h
 refine kCg (some 6) [0] (rule_reader__eat_s0_ok hy0) (kEN (kBT 6 h0 (fun h1 => ?_) (fun h2 => ?_)))
 ·exact kq (kX (PJ.passRet (by obtain rfl := oi h1; exact kRV [0, 1] (.inr rfl) hFn hFH hFD)))
 ·refine kKN (kn 2 ?_)
  obtain ⟨y1, hy1, h3⟩ := bindS h2
  exact kCg (some 9) [0] (rule_reader__eat_s0_ok hy1) (kr 3 (kq (kX (by obtain rfl := oi h3; exact kRV [0, 1] (.inr rfl) hFn hFH hFD))))
def rule_reader__ranges_s0 (x0 : List UInt8) (x1 x2 x3 : Int) (x4 : Bool) : Option (Bool × Int × (List St185)) :=
 (loopN (fun (s1 : Int × (List St185)) => (Option.bind (rule_reader__number_s0 0 x0 s1.1) fun y0 => (Option.bind (Option.bind (bif y0.2.1 then (Option.bind (rule_reader__eat_s0 ([46, 46] : List UInt8) x0 y0.2.2) fun y3 => (some (y3.1, y3.2))) else (some (false, y0.2.2))) fun (s2 : Bool × Int) => (bif s2.1 then (Option.bind (rule_reader__number_s0 (IntKind.wrap .i64 (y0.1 + 1)) x0 s2.2) fun y1 => (some (y1.2.1, y1.1, y1.2.2))) else (some (y0.2.1, y0.1, s2.2)))) fun (s0 : Bool × Int × Int) => (bif (!s0.1) then (some (.inr (false, s0.2.2, s1.2))) else (bif room (s1.2.length + ([(⟨y0.1, s0.2.1⟩ : St185)] : List St185).length) then (Option.bind (rule_reader__eat_s0 ([44] : List UInt8) x0 s0.2.2) fun y2 => (bif (!y2.1) then (some (.inr (true, y2.2, (s1.2 ++ ([(⟨y0.1, s0.2.1⟩ : St185)] : List St185))))) else (some (.inl (y2.2, (s1.2 ++ ([(⟨y0.1, s0.2.1⟩ : St185)] : List St185))))))) else none))))) big (x1, ([] : List St185)))
theorem rule_reader__ranges_s0_ok {x0 : List UInt8} {x1 x2 x3 : Int} {x4 : Bool} {r : Bool × Int × (List St185)} (h : rule_reader__ranges_s0 x0 x1 x2 x3 x4 = some r) : SC Tryz.prog 195 [.ptr 0 0, .ptr 1 0] [.box [.str x0, iL x1], .box [.int .u8 x2, iL x3, .bool x4, .nl]] (.bool r.1) [.box [.str x0, iL r.2.1], .box [.int .u8 x2, iL x3, .bool x4, .vc 2], vecL encSt185 2 185 r.2.2] := by
 refine kFn (fn := Tryz.f195) (fun F hFn hFH hFD => ?_)
 unfold rule_reader__ranges_s0 at h
 refine kq (kb 0 (J.wk (Wk.vivBox 1 3 2 185 (cs := [.int .u8 x2, iL x3, .bool x4, .nl]) (by kernel_rfl) (by kernel_rfl)) (kl (fun (s1 : Int × (List St185)) => ([(0, .ptr 0 0), (1, .ptr 1 0), (4, .bool false)], [.box [.str x0, iL s1.1], .box [.int .u8 x2, iL x3, .bool x4, .vc 2], vecL encSt185 2 185 s1.2])) h [0, 1, 4] (fun s1 x139 hs0 => kb 1 (kn 1 ?_)))))
 obtain ⟨y0, hy0, h0⟩ := bindS hs0
 refine kCg (some 10) [0] (rule_reader__number_s0_ok hy0) (kr 5 (kq (kcN h0 (fun (s0 : Bool × Int × Int) => ([(0, .ptr 0 0), (1, .ptr 1 0), (4, .bool false), (5, iL y0.1), (6, .bool s0.1), (7, iL s0.2.1)], [.box [.str x0, iL s0.2.2], .box [.int .u8 x2, iL x3, .bool x4, .vc 2], vecL encSt185 2 185 s1.2])) (fun s0 hy1 => ?_) (fun s0 h1 => ?_))))
 ·refine kcN hy1 (fun (s2 : Bool × Int) => ([(0, .ptr 0 0), (1, .ptr 1 0), (4, .bool false), (5, iL y0.1), (6, .bool y0.2.1), (7, iL y0.1), (18, .bool s2.1)], [.box [.str x0, iL s2.2], .box [.int .u8 x2, iL x3, .bool x4, .vc 2], vecL encSt185 2 185 s1.2])) (fun s2 hy2 => ?_) (fun s2 h2 => ?_)
  ·refine km 2 (kB 15 hy2 (fun h3 => ?_) (fun h4 => ?_))
   ·refine kc 1 ?_
    obtain ⟨y3, hy3, h5⟩ := bindS h3
    exact kCg (some 17) [0] (rule_reader__eat_s0_ok hy3) (ke 1 (kNo h5 [0, 1, 4, 5, 6, 7, 18]))
   ·exact ke 3 (kNo h4 [0, 1, 4, 5, 6, 7, 18])
  ·refine kBT 18 h2 (fun h6 => ?_) (fun h7 => ?_)
   ·refine km 3 ?_
    obtain ⟨y1, hy4, h8⟩ := bindS h6
    exact kCg (some 23) [0] (rule_reader__number_s0_ok hy4) (ke 5 (kNo h8 [0, 1, 4, 5, 6, 7]))
   ·exact kK (kNo h7 [0, 1, 4, 5, 6, 7])
 ·refine kS (kq (kBT 27 h1 (fun h9 => ?_) (fun h10 => ?_)))
  ·exact kq (kX (PJ.passRet (PJ.blockRet (kLx h9 (fun h11 => PJ.blockRet (by obtain rfl := oi h11; exact kRV [0, 1, 2] (.inr rfl) hFn hFH hFD))))))
  ·refine kKN (kn 9 (kAp 37 2 4 2 185 [2, 3] encSt185 h10 (fun h12 => kr 3 (kn 1 ?_))))
   obtain ⟨y2, hy5, h13⟩ := bindS h12
   exact kCg (some 41) [0] (rule_reader__eat_s0_ok hy5) (kr 1 (kBT 42 h13 (fun h14 => kq (kXb (kLx h14 (fun h16 => PJ.blockRet (by obtain rfl := oi h16; exact kRV [0, 1, 4] (.inr rfl) hFn hFH hFD))))) (fun h15 => kKb (kLW h15 hFH hFD [0, 1, 4]))))
def rule_reader__relation_s0 (x0 : List UInt8) (x1 : Int) : Option (St150 × Bool × Int) :=
 (Option.bind (Option.bind (Option.bind (rule_reader__operand_s0 x0 x1 0 0 false) fun y0 => (bif y0.1 then (Option.bind (rule_reader__mod_s0 x0 y0.2.1 y0.2.2 0 false) fun y1 => (bif y1.1 then (Option.bind (rule_reader__sign_s0 x0 y1.2.1 y0.2.2 y1.2.2 false) fun y2 => (bif y2.1 then (Option.bind (rule_reader__ranges_s0 x0 y2.2.1 y0.2.2 y1.2.2 y2.2.2) fun y3 => (some (y3.1, y3.2.1, y0.2.2, y1.2.2, y2.2.2, y3.2.2))) else (some (false, y2.2.1, y0.2.2, y1.2.2, y2.2.2, ([] : List St185))))) else (some (false, y1.2.1, y0.2.2, y1.2.2, false, ([] : List St185))))) else (some (false, y0.2.1, y0.2.2, 0, false, ([] : List St185))))) fun (s0 : Bool × Int × Int × Int × Bool × (List St185)) => (bif s0.1 then (some (.inr ((⟨s0.2.2.1, s0.2.2.2.1, s0.2.2.2.2.1, s0.2.2.2.2.2⟩ : St150), true, s0.2.1))) else (some (.inl s0.2.1)))) (joinX fun (s1 : Int) => (some ((⟨0, 0, false, ([] : List St185)⟩ : St150), false, s1))))
theorem rule_reader__relation_s0_ok {x0 : List UInt8} {x1 : Int} {r : St150 × Bool × Int} (h : rule_reader__relation_s0 x0 x1 = some r) : SC Tryz.prog 174 [.ptr 0 0] [.box [.str x0, iL x1]] (.tup [.agg (encSt150 r.1), .bool r.2.1]) [.box [.str x0, iL r.2.2]] := by
 refine kFn (fn := Tryz.f174) (fun F hFn hFH hFD => ?_)
 unfold rule_reader__relation_s0 at h
 refine kq (kq (kcX h (fun (s1 : Int) => ([(2, .ptr 1 0), (3, .bool false)], [.box [.str x0, iL s1], .box [.int .u8 0, iL 0, .bool false, .nl]])) (fun y4 hy0 h0 => ?_) (fun s1 h1 => ?_)))
 ·refine kcN hy0 (fun (s0 : Bool × Int × Int × Int × Bool × (List St185)) => ([(2, .ptr 1 0), (3, .bool false), (4, .ptr 2 0), (18, .bool s0.1)], [.box [.str x0, iL s0.2.1], .box [.int .u8 0, iL 0, .bool false, .nl], .box [.int .u8 s0.2.2.1, iL s0.2.2.2.1, .bool s0.2.2.2.2.1, .vc 3], vecL encSt185 2 185 s0.2.2.2.2.2])) (fun s0 hy1 => ?_) (fun s0 h2 => ?_)
  ·refine km 1 ?_
   obtain ⟨y0, hy2, h3⟩ := bindS hy1
   refine kCg (some 6) [0, 2] (rule_reader__operand_s0_ok hy2) (kc 1 (kB 7 h3 (fun h4 => ?_) (fun h5 => ?_)))
   ·refine kc 1 ?_
    obtain ⟨y1, hy3, h6⟩ := bindS h4
    refine kCg (some 9) [0, 2] (rule_reader__mod_s0_ok hy3) (kc 2 (kB 11 h6 (fun h7 => ?_) (fun h8 => ?_)))
    ·refine kc 1 ?_
     obtain ⟨y2, hy4, h9⟩ := bindS h7
     refine kCg (some 13) [0, 2] (rule_reader__sign_s0_ok hy4) (kc 2 (kB 15 h9 (fun h10 => ?_) (fun h11 => ?_)))
     ·refine RJ.seg 1 [2, 3, 4, 15, 16] (L2 := [(2, .ptr 1 0), (3, .bool false), (4, .ptr 2 0), (15, .bool true), (16, .ptr 0 0)]) (H2 := [.box [.str x0, iL y2.2.1], .box [.int .u8 0, iL 0, .bool false, .nl], .box [.int .u8 y0.2.2, iL y1.2.2, .bool y2.2.2, .nl]]) (by kernel_rfl) ?_
      obtain ⟨y3, hy5, h12⟩ := bindS h10
      exact kCg (some 17) [0, 2] (rule_reader__ranges_s0_ok hy5) (ke 1 (kNo h12 [2, 3, 4, 18]))
     ·exact RJ.seg 3 [2, 3, 4, 18] (L2 := [(2, .ptr 1 0), (3, .bool false), (4, .ptr 2 0), (18, .bool false)]) (H2 := [.box [.str x0, iL y2.2.1], .box [.int .u8 0, iL 0, .bool false, .nl], .box [.int .u8 y0.2.2, iL y1.2.2, .bool y2.2.2, .nl]]) (by kernel_rfl) (kE (PJ.wk (Wk.vivBox 2 3 2 185 (cs := [.int .u8 y0.2.2, iL y1.2.2, .bool y2.2.2, .nl]) (by kernel_rfl) (by kernel_rfl)) (kNo h11 [2, 3, 4, 18])))
    ·exact ke 7 (PJ.wk (Wk.vivBox 2 3 2 185 (cs := [.int .u8 y0.2.2, iL y1.2.2, .bool false, .nl]) (by kernel_rfl) (by kernel_rfl)) (kNo h8 [2, 3, 4, 18]))
   ·exact ke 11 (PJ.wk (Wk.vivBox 2 3 2 185 (cs := [.int .u8 y0.2.2, iL 0, .bool false, .nl]) (by kernel_rfl) (by kernel_rfl)) (kNo h5 [2, 3, 4, 18]))
  ·exact kBT 18 h2 (fun h13 => kq (kX (kCx h13 h0 (fun h15 => by obtain rfl := oi h15; exact PJ.wk (Wk.freeze 3 (n := s0.2.2.2.2.2.length) (k := 2) (e := 185) (cs := s0.2.2.2.2.2.flatMap encSt185) (by kernel_rfl)) (kRV [0] (.inr rfl) hFn hFH hFD))))) (fun h14 => kK (kXW h14 hFH hFD [0, 1]))
 ·exact kq (kX (by obtain rfl := oi h1; exact PJ.res (v1 := .tup [.agg [.int .u8 0, iL 0, .bool false, .nl], .bool false]) (Le.tup (.cons (Le.agg (.cons (Le.refl _) (.cons (Le.refl _) (.cons (Le.refl _) (.cons (Le.nl _) .nil))))) (.cons (Le.refl _) .nil))) (kRV [0] (.inr rfl) hFn hFH hFD)))
def rule_reader__rows_s0 (x0 : List UInt8) (x1 : Int) : Option ((List (List St150)) × Bool × Int) :=
 (Option.bind (loopN (fun (s0 : Int × (List (List St150)) × (List St150)) => (Option.bind (rule_reader__relation_s0 x0 s0.1) fun y0 => (bif (!y0.2.1) then (some (.inr (.inr (([] : List (List St150)), false, y0.2.2)))) else (bif room (s0.2.2.length + ([y0.1] : List St150).length) then (Option.bind (rule_reader__word_s0 x0 y0.2.2) fun y1 => (bif (y1.1 == ([97, 110, 100] : List UInt8)) then (some (.inl ((IntKind.wrap .i64 (y1.2 + (y1.1.length : Int))), s0.2.1, (s0.2.2 ++ ([y0.1] : List St150))))) else (bif (y1.1 == ([111, 114] : List UInt8)) then (bif room (s0.2.1.length + (([(s0.2.2 ++ ([y0.1] : List St150))] : List (List St150))).length) then (some (.inl ((IntKind.wrap .i64 (y1.2 + (y1.1.length : Int))), (s0.2.1 ++ (([(s0.2.2 ++ ([y0.1] : List St150))] : List (List St150)))), ([] : List St150)))) else none) else (some (.inr (.inl (y1.2, s0.2.1, (s0.2.2 ++ ([y0.1] : List St150))))))))) else none)))) big (x1, ([] : List (List St150)), ([] : List St150))) (joinX fun (s1 : Int × (List (List St150)) × (List St150)) => (bif room (s1.2.1.length + ([s1.2.2] : List (List St150)).length) then (some ((s1.2.1 ++ ([s1.2.2] : List (List St150))), (decide (s1.1 = (x0.length : Int))), s1.1)) else none)))
theorem rule_reader__rows_s0_ok {x0 : List UInt8} {x1 : Int} {r : (List (List St150)) × Bool × Int} (h : rule_reader__rows_s0 x0 x1 = some r) : SC Tryz.prog 154 [.ptr 0 0] [.box [.str x0, iL x1]] (.tup [lsv (encL encSt150 4) 1 r.1, .bool r.2.1]) [.box [.str x0, iL r.2.2]] := by
 refine kFn (fn := Tryz.f154) (fun F hFn hFH hFD => ?_)
 unfold rule_reader__rows_s0 at h
 refine kq (K.scope (by kernel_rfl) (kq (kq (kS (K.label (by kernel_rfl) (PJ.next (kcX h (fun (s1 : Int × (List (List St150)) × (List St150)) => ([(0, .ptr 0 0), (2, .nl), (3, .bool false), (4, .vc 1), (5, .vc 2)], [.box [.str x0, iL s1.1], vecL (encL encSt150 4) 1 148 s1.2.1, vecL encSt150 4 151 s1.2.2])) (fun y2 hy0 h0 => ?_) (fun s1 h1 => ?_))))))))
 ·refine kb 0 (J.wk (Wk.viv 4 1 148 (by kernel_rfl)) (J.wk (Wk.viv 5 4 151 (by kernel_rfl)) (kl (fun (s0 : Int × (List (List St150)) × (List St150)) => ([(0, .ptr 0 0), (2, .nl), (3, .bool false), (4, .vc 1), (5, .vc 2)], [.box [.str x0, iL s0.1], vecL (encL encSt150 4) 1 148 s0.2.1, vecL encSt150 4 151 s0.2.2])) hy0 [0, 2, 3, 4, 5] (fun s0 x121 hs0 => kb 1 (kn 1 ?_)))))
  obtain ⟨y0, hy1, h2⟩ := bindS hs0
  refine kCg (some 11) [0] (rule_reader__relation_s0_ok hy1) (kr 6 (kS (kq (kBT 15 h2 (fun h3 => ?_) (fun h4 => ?_)))))
  ·exact kq (kX (PJ.passRet (PJ.blockRet (kLx h3 (fun h5 => PJ.blockRet (kCx h5 h0 (fun h6 => PJ.scR (by obtain rfl := oi h6; exact PJ.res (v1 := .tup [.nl, .bool false]) (Le.tup (.cons (Le.nl _) (.cons (Le.refl _) .nil))) (kRV [0] (.inr rfl) hFn hFH hFD)))))))))
  ·refine kKN (kn 3 (kAp 19 2 5 4 151 [2, 4] encSt150 h4 (fun h7 => kr 1 (kn 1 ?_))))
   obtain ⟨y1, hy2, h8⟩ := bindS h7
   refine kCg (some 21) [0] (rule_reader__word_s0_ok hy2) (kr 1 (kq (kb 2 (kSR (RJ.seg 2 [0, 2, 3, 4, 5, 8, 22, 23] (L2 := [(0, .ptr 0 0), (2, .nl), (3, .bool false), (4, .vc 1), (5, .vc 5), (8, .str y1.1), (22, .str y1.1), (23, .bool (y1.1 == ([97, 110, 100] : List UInt8)))]) (H2 := [.box [.str x0, iL y1.2], vecL (encL encSt150 4) 1 148 s0.2.1, .gone, .box (encSt150 y0.1), vecL encSt150 4 151 ([y0.1] : List St150), vecL encSt150 4 151 (s0.2.2 ++ ([y0.1] : List St150))]) (by kernel_rfl) (kEN (kBT 23 h8 (fun h9 => ?_) (fun h10 => ?_))))))))
   ·exact kM (PJ.blockNormal (PJ.blockNormal (kLW h9 hFH hFD [0, 1, 5])))
   ·refine kq (kBT 34 h10 (fun h11 => ?_) (fun h12 => ?_))
    ·refine kq (kn 2 (RJ.wk (Wk.freeze 5 (n := (s0.2.2 ++ ([y0.1] : List St150)).length) (k := 4) (e := 151) (cs := (s0.2.2 ++ ([y0.1] : List St150)).flatMap encSt150) (by kernel_rfl)) (kc 1 ?_)))
     obtain ⟨hm, h13⟩ := asrt h11
     exact RJ.rel (d := (some 48)) (ef := ⟨.vc 7, [1, 6], [(1, .gone), (7, .vec (s0.2.1.length + (([(s0.2.2 ++ ([y0.1] : List St150))] : List (List St150))).length) 1 148 (s0.2.1.flatMap (encL encSt150 4) ++ (([(s0.2.2 ++ ([y0.1] : List St150))] : List (List St150))).flatMap (encL encSt150 4)))]⟩) (ef' := ⟨.vc 7, [1, 6], [(1, .gone), (7, vecL (encL encSt150 4) 1 148 (s0.2.1 ++ (([(s0.2.2 ++ ([y0.1] : List St150))] : List (List St150)))))]⟩) (c := room (s0.2.1.length + (([(s0.2.2 ++ ([y0.1] : List St150))] : List (List St150))).length)) (tr2 := []) (H2 := [.box [.str x0, iL ((IntKind.wrap .i64 (y1.2 + (y1.1.length : Int))))], .gone, .gone, .box (encSt150 y0.1), vecL encSt150 4 151 ([y0.1] : List St150), .gone, vecL (encL encSt150 4) 1 148 (([(s0.2.2 ++ ([y0.1] : List St150))] : List (List St150))), vecL (encL encSt150 4) 1 148 ((s0.2.1 ++ (([(s0.2.2 ++ ([y0.1] : List St150))] : List (List St150)))))]) (by kernel_rfl) hm (fun hc => N.app) (by kernel_rfl) (kr 1 (kM (PJ.blockNormal (PJ.blockNormal (PJ.wk (Wk.viv 5 4 151 (by kernel_rfl)) (kLW h13 hFH hFD [0, 7, 8]))))))
    ·exact kEx 0 (PJ.blockPass (by kernel_rfl) (PJ.blockPass (by kernel_rfl) (kLx h12 (fun h14 => PJ.blockOut (kXW h14 hFH hFD [0, 1, 5])))))
 ·refine kS (J.wk (Wk.freeze 2 (n := s1.2.2.length) (k := 4) (e := 151) (cs := s1.2.2.flatMap encSt150) (by kernel_rfl)) (kDr (kD 3 ?_)))
  obtain ⟨hm, h15⟩ := asrt h1
  exact RJ.rel (d := (some 52)) (ef := ⟨.vc 4, [1, 3], [(1, .gone), (4, .vec (s1.2.1.length + ([s1.2.2] : List (List St150)).length) 1 148 (s1.2.1.flatMap (encL encSt150 4) ++ ([s1.2.2] : List (List St150)).flatMap (encL encSt150 4)))]⟩) (ef' := ⟨.vc 4, [1, 3], [(1, .gone), (4, vecL (encL encSt150 4) 1 148 (s1.2.1 ++ ([s1.2.2] : List (List St150))))]⟩) (c := room (s1.2.1.length + ([s1.2.2] : List (List St150)).length)) (tr2 := [([], []), ([], []), ([], [6, 7, 6, 7]), ([2, 3, 6, 7], [2, 3, 8, 9, 8, 9])]) (H2 := [.box [.str x0, iL s1.1], .gone, .gone, vecL (encL encSt150 4) 1 148 ([s1.2.2] : List (List St150)), vecL (encL encSt150 4) 1 148 ((s1.2.1 ++ ([s1.2.2] : List (List St150))))]) (by kernel_rfl) hm (fun hc => N.app) (by kernel_rfl) (kD 12 (kEN (kX (PJ.scR (by obtain rfl := oi h15; exact PJ.wk (Wk.freeze 4 (n := ((s1.2.1 ++ ([s1.2.2] : List (List St150)))).length) (k := 1) (e := 148) (cs := ((s1.2.1 ++ ([s1.2.2] : List (List St150)))).flatMap (encL encSt150 4)) (by kernel_rfl)) (kRV [0] (.inr rfl) hFn hFH hFD))))))
def rule_tooMany (x0 : List (List St150)) : Option (Bool) :=
 (Option.bind (loopN (fun (s0 : Int × Int) => (bif (decide (s0.2 < (x0.length : Int))) then (Option.bind (bif inR s0.2 x0.length then (loopN (fun (s1 : Int) => (bif (decide (s1 < ((nth x0 s0.2).length : Int))) then (bif inR s1 (nth x0 s0.2).length then (bif (decide (((((nth (nth x0 s0.2) s1).R_).length : Int)) > 20)) then (some (.inr (.inr (.inr (.inr true))))) else (some (.inl (IntKind.wrap .i64 (s1 + 1))))) else none) else (some (.inr (.inl ()))))) big 0) else none) (joinX fun (s3 : Unit) => (some (.inl ((IntKind.wrap .i64 (s0.1 + ((nth x0 s0.2).length : Int))), (IntKind.wrap .i64 (s0.2 + 1))))))) else (some (.inr (.inl s0.1))))) big (0, 0)) (joinX fun (s2 : Int) => (some (decide (s2 > 20)))))
theorem rule_tooMany_ok {x0 : List (List St150)} {r : Bool} (h : rule_tooMany x0 = some r) : SC Tryz.prog 155 [lsv (encL encSt150 4) 1 x0] [] (.bool r) [] := by
 refine kFn (fn := Tryz.f155) (fun F hFn hFH hFD => ?_)
 unfold rule_tooMany at h
 exact kq (kq (kcX h (fun (s2 : Int) => ([(2, .bool false), (3, iL s2)], [])) (fun y0 hy0 h0 => kq (kb 0 (kl (fun (s0 : Int × Int) => ([(2, .bool false), (3, iL s0.1), (8, lsv (encL encSt150 4) 1 x0), (9, iL (x0.length : Int)), (10, iL s0.2)], [])) hy0 [2, 3, 8, 9, 10] (fun s0 x551 hs0 => kq (kS (kBT 11 hs0 (fun h2 => kKN (kcX h2 (fun (s3 : Unit) => ([(2, .bool false), (3, iL ((IntKind.wrap .i64 (s0.1 + ((nth x0 s0.2).length : Int))))), (8, lsv (encL encSt150 4) 1 x0), (9, iL (x0.length : Int)), (10, iL s0.2)], [])) (fun y1 hy1 h4 => kb 1 (kSR (kIb 12 (encL_len encSt150 4) hy1 (fun h6 => kr 2 (kq (kq (kb 2 (kl (fun (s1 : Int) => ([(2, .bool false), (3, iL ((IntKind.wrap .i64 (s0.1 + ((nth x0 s0.2).length : Int))))), (8, lsv (encL encSt150 4) 1 x0), (9, iL (x0.length : Int)), (10, iL s0.2), (18, lsv encSt150 4 (nth x0 s0.2)), (19, iL ((nth x0 s0.2).length : Int)), (20, iL s1)], [])) h6 [2, 3, 8, 9, 10, 18, 19, 20] (fun s1 x642 hs1 => kq (kS (kBT 21 hs1 (fun h7 => kKN (kS (kb 3 (kSR (kIb 22 encSt150_len h7 (fun h9 => kr 3 (kq (kBT 27 h9 (fun h10 => kq (kXp (kLx h10 (fun h12 => PJ.blockRet (PJ.blockRet (kCx h12 h4 (fun h13 => kLx h13 (fun h14 => PJ.blockRet (kCx h14 h0 (fun h15 => by obtain rfl := oi h15; exact kZ hFn hFH hFD)))))))))) (fun h11 => kKn (kM (kLW h11 hFH hFD []))))))))))) (fun h8 => kEp 2 (kLx h8 (fun h16 => PJ.blockOut (PJ.blockNormal (kXo h16 [2, 3, 8, 9, 10])))))))))))))))) (fun s3 h5 => kM (kLo h5 [2, 3, 8, 9, 10])))) (fun h3 => kEp 0 (kLx h3 (fun h17 => PJ.blockOut (kXo h17 [2, 3])))))))))) (fun s2 h1 => kq (kX (by obtain rfl := oi h1; exact kZ hFn hFH hFD)))))
def rule_Parse (x0 : List UInt8) : Option ((List (List St150)) × Int × Int) :=
 (bif (decide ((x0.length : Int) > 400)) then (some (([] : List (List St150)), 0, 11)) else (Option.bind (rule_reader__rows_s0 x0 0) fun y0 => (bif (!y0.2.1) then (some (([] : List (List St150)), y0.2.2, 2)) else (Option.bind (rule_tooMany y0.1) fun y1 => (bif y1 then (some (([] : List (List St150)), 0, 11)) else (some (y0.1, 0, 0)))))))
theorem rule_Parse_ok {x0 : List UInt8} {r : (List (List St150)) × Int × Int} (h : rule_Parse x0 = some r) : SC Tryz.prog 131 [.str x0] [] (.tup [lsv (encL encSt150 4) 1 r.1, iL r.2.1, iL r.2.2]) [] := by
 refine kFn (fn := Tryz.f131) (fun F hFn hFH hFD => ?_)
 unfold rule_Parse at h
 refine kq (kS (kq (kBT 10 h (fun h0 => ?_) (fun h1 => ?_))))
 ·exact kq (kX (PJ.passRet (by obtain rfl := oi h0; exact PJ.res (v1 := .tup [.nl, iL 0, iL 11]) (Le.tup (.cons (Le.nl _) (.cons (Le.refl _) (.cons (Le.refl _) .nil)))) (kZ hFn hFH hFD))))
 ·refine kKN (kq (kn 1 ?_))
  obtain ⟨y0, hy0, h2⟩ := bindS h1
  exact kCg (some 16) [0] (rule_reader__rows_s0_ok hy0) (kr 5 (kS (kq (kBT 20 h2 (fun h3 => kS (kDr (kD 7 (kEN (kX (PJ.passRet (by obtain rfl := oi h3; exact PJ.res (v1 := .tup [.nl, iL y0.2.2, iL 2]) (Le.tup (.cons (Le.nl _) (.cons (Le.refl _) (.cons (Le.refl _) .nil)))) (kZ hFn hFH hFD)))))))) (fun h4 => kKN (kS (kn 1 (kAb 26 h4 (fun _ => rule_tooMany_ok) (fun y1 h5 => kEN (kBT 26 h5 (fun h6 => kq (kX (PJ.passRet (by obtain rfl := oi h6; exact PJ.res (v1 := .tup [.nl, iL 0, iL 11]) (Le.tup (.cons (Le.nl _) (.cons (Le.refl _) (.cons (Le.refl _) .nil)))) (kZ hFn hFH hFD))))) (fun h7 => kKN (kq (kX (by obtain rfl := oi h7; exact kZ hFn hFH hFD))))))))))))))
def k1_ : List UInt8 := [48, 48, 48, 49, 48, 50, 48, 51, 48, 52, 48, 53, 48, 54, 48, 55, 48, 56, 48, 57, 49, 48, 49, 49, 49, 50, 49, 51, 49, 52, 49, 53, 49, 54, 49, 55, 49, 56, 49, 57, 50, 48, 50, 49, 50, 50, 50, 51, 50, 52, 50, 53, 50, 54, 50, 55, 50, 56, 50, 57, 51, 48, 51, 49, 51, 50, 51, 51, 51, 52, 51, 53, 51, 54, 51, 55, 51, 56, 51, 57, 52, 48, 52, 49, 52, 50, 52, 51, 52, 52, 52, 53, 52, 54, 52, 55, 52, 56, 52, 57, 53, 48, 53, 49, 53, 50, 53, 51, 53, 52, 53, 53, 53, 54, 53, 55, 53, 56, 53, 57, 54, 48, 54, 49, 54, 50, 54, 51, 54, 52, 54, 53, 54, 54, 54, 55, 54, 56, 54, 57, 55, 48, 55, 49, 55, 50, 55, 51, 55, 52, 55, 53, 55, 54, 55, 55, 55, 56, 55, 57, 56, 48, 56, 49, 56, 50, 56, 51, 56, 52, 56, 53, 56, 54, 56, 55, 56, 56, 56, 57, 57, 48, 57, 49, 57, 50, 57, 51, 57, 52, 57, 53, 57, 54, 57, 55, 57, 56, 57, 57]
def strconv_small (x0 : Int) : Option (List UInt8) :=
 (bif (decide (x0 < 10)) then (bif inS x0 (IntKind.wrap .i64 (x0 + 1)) ([48, 49, 50, 51, 52, 53, 54, 55, 56, 57, 97, 98, 99, 100, 101, 102, 103, 104, 105, 106, 107, 108, 109, 110, 111, 112, 113, 114, 115, 116, 117, 118, 119, 120, 121, 122] : List UInt8).length then (some (cut ([48, 49, 50, 51, 52, 53, 54, 55, 56, 57, 97, 98, 99, 100, 101, 102, 103, 104, 105, 106, 107, 108, 109, 110, 111, 112, 113, 114, 115, 116, 117, 118, 119, 120, 121, 122] : List UInt8) x0 (IntKind.wrap .i64 (x0 + 1)))) else none) else (bif inS (IntKind.wrap .i64 (x0 * 2)) ((IntKind.wrap .i64 ((IntKind.wrap .i64 (x0 * 2)) + 2))) k1_.length then (some (cut k1_ (IntKind.wrap .i64 (x0 * 2)) ((IntKind.wrap .i64 ((IntKind.wrap .i64 (x0 * 2)) + 2))))) else none))
theorem strconv_small_ok {x0 : Int} {r : List UInt8} (h : strconv_small x0 = some r) : SC Tryz.prog 216 [iL x0] [] (.str r) [] := by
 refine kFn (fn := Tryz.f216) (fun F hFn hFH hFD => ?_)
 unfold strconv_small at h
 refine kq (kS (kq (kBT 4 h (fun h0 => ?_) (fun h1 => ?_))))
 ·refine kn 3 ?_
  obtain ⟨hm, h2⟩ := asrt h0
  exact kQ 8 (.str (cut ([48, 49, 50, 51, 52, 53, 54, 55, 56, 57, 97, 98, 99, 100, 101, 102, 103, 104, 105, 106, 107, 108, 109, 110, 111, 112, 113, 114, 115, 116, 117, 118, 119, 120, 121, 122] : List UInt8) x0 (IntKind.wrap .i64 (x0 + 1)))) [] (tr2 := []) hm (kr 1 (kX (PJ.passRet (by obtain rfl := oi h2; exact kZ hFn hFH hFD))))
 ·refine kKN (kn 5 ?_)
  obtain ⟨hm, h3⟩ := asrt h1
  exact kQ 14 (.str (cut k1_ (IntKind.wrap .i64 (x0 * 2)) ((IntKind.wrap .i64 ((IntKind.wrap .i64 (x0 * 2)) + 2))))) [] (tr2 := []) hm (kr 1 (kX (by obtain rfl := oi h3; exact kZ hFn hFH hFD)))
def k2_ : List UInt8 := [0, 1, 2, 2, 3, 3, 3, 3, 4, 4, 4, 4, 4, 4, 4, 4, 5, 5, 5, 5, 5, 5, 5, 5, 5, 5, 5, 5, 5, 5, 5, 5, 6, 6, 6, 6, 6, 6, 6, 6, 6, 6, 6, 6, 6, 6, 6, 6, 6, 6, 6, 6, 6, 6, 6, 6, 6, 6, 6, 6, 6, 6, 6, 6, 7, 7, 7, 7, 7, 7, 7, 7, 7, 7, 7, 7, 7, 7, 7, 7, 7, 7, 7, 7, 7, 7, 7, 7, 7, 7, 7, 7, 7, 7, 7, 7, 7, 7, 7, 7, 7, 7, 7, 7, 7, 7, 7, 7, 7, 7, 7, 7, 7, 7, 7, 7, 7, 7, 7, 7, 7, 7, 7, 7, 7, 7, 7, 7, 8, 8, 8, 8, 8, 8, 8, 8, 8, 8, 8, 8, 8, 8, 8, 8, 8, 8, 8, 8, 8, 8, 8, 8, 8, 8, 8, 8, 8, 8, 8, 8, 8, 8, 8, 8, 8, 8, 8, 8, 8, 8, 8, 8, 8, 8, 8, 8, 8, 8, 8, 8, 8, 8, 8, 8, 8, 8, 8, 8, 8, 8, 8, 8, 8, 8, 8, 8, 8, 8, 8, 8, 8, 8, 8, 8, 8, 8, 8, 8, 8, 8, 8, 8, 8, 8, 8, 8, 8, 8, 8, 8, 8, 8, 8, 8, 8, 8, 8, 8, 8, 8, 8, 8, 8, 8, 8, 8, 8, 8, 8, 8, 8, 8, 8, 8, 8, 8, 8, 8, 8, 8, 8, 8, 8, 8, 8, 8]
def bits_Len64 (x0 : Int) : Option (Int) :=
 (Option.bind (bif (decide (x0 ≥ 4294967296)) then (some ((Int.fdiv x0 4294967296), 32)) else (some (x0, 0))) fun (s0 : Int × Int) => (Option.bind (bif (decide (s0.1 ≥ 65536)) then (some ((Int.fdiv s0.1 65536), (IntKind.wrap .i64 (s0.2 + 16)))) else (some (s0.1, s0.2))) fun (s1 : Int × Int) => (Option.bind (bif (decide (s1.1 ≥ 256)) then (some ((Int.fdiv s1.1 256), (IntKind.wrap .i64 (s1.2 + 8)))) else (some (s1.1, s1.2))) fun (s2 : Int × Int) => (bif inR (IntKind.wrap .u8 s2.1) k2_.length then (some (IntKind.wrap .i64 (s2.2 + ((IntKind.wrap .i64 ((((k2_.getD ((IntKind.wrap .u8 s2.1) : Int).toNat 0).toNat : Nat) : Int))))))) else none))))
theorem bits_Len64_ok {x0 r : Int} (h : bits_Len64 x0 = some r) : SC Tryz.prog 225 [.int .u64 x0] [] (iL r) [] := by
 refine kFn (fn := Tryz.f225) (fun F hFn hFH hFD => ?_)
 unfold bits_Len64 at h
 exact kq (kcN h (fun (s0 : Int × Int) => ([(0, .int .u64 s0.1), (2, iL s0.2)], [])) (fun s0 hy0 => kq (kBT 4 hy0 (fun h1 => kq (kM (kNo h1 [0, 2]))) (fun h2 => kK (kNo h2 [0, 2])))) (fun s0 h0 => kcN h0 (fun (s1 : Int × Int) => ([(0, .int .u64 s1.1), (2, iL s1.2)], [])) (fun s1 hy1 => kq (kBT 8 hy1 (fun h4 => kq (kM (kNo h4 [0, 2]))) (fun h5 => kK (kNo h5 [0, 2])))) (fun s1 h3 => kcN h3 (fun (s2 : Int × Int) => ([(0, .int .u64 s2.1), (2, iL s2.2)], [])) (fun s2 hy2 => kq (kBT 14 hy2 (fun h7 => kq (kM (kNo h7 [0, 2]))) (fun h8 => kK (kNo h8 [0, 2])))) (fun s2 h6 => kn 3 (kGb 22 h6 (fun h9 => kr 3 (kX (by obtain rfl := oi h9; exact kZ hFn hFH hFD))))))))
def strconv_log10Pow2 (x0 : Int) : Option (Int) :=
 (some (Int.fdiv (IntKind.wrap .i64 (x0 * 78913)) 262144))
theorem strconv_log10Pow2_ok {x0 r : Int} (h : strconv_log10Pow2 x0 = some r) : SC Tryz.prog 224 [iL x0] [] (iL r) [] := by
 refine kFn (fn := Tryz.f224) (fun F hFn hFH hFD => ?_)
 unfold strconv_log10Pow2 at h
 exact kq (kq (kX (by obtain rfl := oi h; exact kZ hFn hFH hFD)))
def k3_ : List Int := [1, 10, 100, 1000, 10000, 100000, 1000000, 10000000, 100000000, 1000000000, 10000000000, 100000000000, 1000000000000, 10000000000000, 100000000000000, 1000000000000000, 10000000000000000, 100000000000000000, 1000000000000000000, 10000000000000000000]
def strconv_bool2 (x0 : Bool) : Option (Int) :=
 (bif x0 then (some 1) else (some 0))
theorem strconv_bool2_ok {x0 : Bool} {r : Int} (h : strconv_bool2 x0 = some r) : SC Tryz.prog 226 [.bool x0] [] (iL r) [] := by
 refine kFn (fn := Tryz.f226) (fun F hFn hFH hFD => ?_)
 unfold strconv_bool2 at h
 exact kq (kS (kq (kBT 3 h (fun h0 => kq (kX (PJ.passRet (by obtain rfl := oi h0; exact kZ hFn hFH hFD)))) (fun h1 => kKN (kq (kX (by obtain rfl := oi h1; exact kZ hFn hFH hFD)))))))
def strconv_numDigits (x0 : Int) : Option (Int) :=
 (Option.bind (bits_Len64 x0) fun y1 => (Option.bind (strconv_log10Pow2 y1) fun y0 => (bif inR y0 20 then (Option.bind (strconv_bool2 ((decide (x0 ≥ (nth k3_ y0))))) fun y2 => (some (IntKind.wrap .i64 (y0 + y2)))) else none)))
theorem strconv_numDigits_ok {x0 r : Int} (h : strconv_numDigits x0 = some r) : SC Tryz.prog 217 [.int .u64 x0] [] (iL r) [] := by
 refine kFn (fn := Tryz.f217) (fun F hFn hFH hFD => ?_)
 unfold strconv_numDigits at h
 refine kq (kn 1 (kAb 5 h (fun _ => bits_Len64_ok) (fun y1 h0 => kAb 6 h0 (fun _ => strconv_log10Pow2_ok) (fun y0 h1 => kr 1 (kn 3 ?_)))))
 obtain ⟨hm, h2⟩ := asrt h1
 exact RJ.rel (d := (some 10)) (ef := ⟨.ep (((k3_.flatMap (encI .u64)).drop ((y0 : Int).toNat * 1)).take 1), [], []⟩) (ef' := ⟨.ep ((encI .u64) (nth k3_ y0)), [], []⟩) (c := inR y0 20) (tr2 := []) (H2 := []) (by kernel_rfl) hm (fun hc => N.idx (encI_len .u64) hc) (by kernel_rfl) (kc 2 (kAb 13 h2 (fun _ => strconv_bool2_ok) (fun y2 h3 => kr 2 (kX (by obtain rfl := oi h3; exact kZ hFn hFH hFD)))))
def strconv_formatBase10_s0 (x0 x1 : Int) (x2 : List Int) : Option ((List Int)) :=
 (Option.bind (loopN (fun (s0 : Int × Int × (List Int)) => (bif (decide (s0.2.1 ≥ 8)) then (bif inR ((IntKind.wrap .u32 (((IntKind.wrap .u32 (((Int.tmod ((Int.tmod (IntKind.wrap .u32 (Int.tmod s0.1 100000000)) 10000)) 100)) * 2))) + 1))) k1_.length then (bif inR ((IntKind.wrap .u32 (((Int.tmod ((Int.tmod (IntKind.wrap .u32 (Int.tmod s0.1 100000000)) 10000)) 100)) * 2))) k1_.length then (bif inR (IntKind.wrap .i64 (s0.2.1 - 1)) x0.toNat then (bif inP 0 (IntKind.wrap .i64 (s0.2.1 - 1)) s0.2.2.length then (bif inR (IntKind.wrap .i64 (s0.2.1 - 2)) x0.toNat then (bif inP 0 (IntKind.wrap .i64 (s0.2.1 - 2)) ((setAt s0.2.2 ((0 : Nat) + (IntKind.wrap .i64 (s0.2.1 - 1)) : Int) ((((k1_.getD ((IntKind.wrap .u32 (((IntKind.wrap .u32 (((Int.tmod ((Int.tmod (IntKind.wrap .u32 (Int.tmod s0.1 100000000)) 10000)) 100)) * 2))) + 1)) : Int).toNat 0).toNat : Nat) : Int)))).length then (bif inR ((IntKind.wrap .u32 (((IntKind.wrap .u32 (((IntKind.wrap .u32 (Int.tdiv ((Int.tmod (IntKind.wrap .u32 (Int.tmod s0.1 100000000)) 10000)) 100))) * 2))) + 1))) k1_.length then (bif inR ((IntKind.wrap .u32 (((IntKind.wrap .u32 (Int.tdiv ((Int.tmod (IntKind.wrap .u32 (Int.tmod s0.1 100000000)) 10000)) 100))) * 2))) k1_.length then (bif inR (IntKind.wrap .i64 (s0.2.1 - 3)) x0.toNat then (bif inP 0 (IntKind.wrap .i64 (s0.2.1 - 3)) ((setAt ((setAt s0.2.2 ((0 : Nat) + (IntKind.wrap .i64 (s0.2.1 - 1)) : Int) ((((k1_.getD ((IntKind.wrap .u32 (((IntKind.wrap .u32 (((Int.tmod ((Int.tmod (IntKind.wrap .u32 (Int.tmod s0.1 100000000)) 10000)) 100)) * 2))) + 1)) : Int).toNat 0).toNat : Nat) : Int)))) ((0 : Nat) + (IntKind.wrap .i64 (s0.2.1 - 2)) : Int) ((((k1_.getD ((IntKind.wrap .u32 (((Int.tmod ((Int.tmod (IntKind.wrap .u32 (Int.tmod s0.1 100000000)) 10000)) 100)) * 2)) : Int).toNat 0).toNat : Nat) : Int)))).length then (bif inR (IntKind.wrap .i64 (s0.2.1 - 4)) x0.toNat then (bif inP 0 (IntKind.wrap .i64 (s0.2.1 - 4)) ((setAt ((setAt ((setAt s0.2.2 ((0 : Nat) + (IntKind.wrap .i64 (s0.2.1 - 1)) : Int) ((((k1_.getD ((IntKind.wrap .u32 (((IntKind.wrap .u32 (((Int.tmod ((Int.tmod (IntKind.wrap .u32 (Int.tmod s0.1 100000000)) 10000)) 100)) * 2))) + 1)) : Int).toNat 0).toNat : Nat) : Int)))) ((0 : Nat) + (IntKind.wrap .i64 (s0.2.1 - 2)) : Int) ((((k1_.getD ((IntKind.wrap .u32 (((Int.tmod ((Int.tmod (IntKind.wrap .u32 (Int.tmod s0.1 100000000)) 10000)) 100)) * 2)) : Int).toNat 0).toNat : Nat) : Int)))) ((0 : Nat) + (IntKind.wrap .i64 (s0.2.1 - 3)) : Int) ((((k1_.getD ((IntKind.wrap .u32 (((IntKind.wrap .u32 (((IntKind.wrap .u32 (Int.tdiv ((Int.tmod (IntKind.wrap .u32 (Int.tmod s0.1 100000000)) 10000)) 100))) * 2))) + 1)) : Int).toNat 0).toNat : Nat) : Int)))).length then (bif inR ((IntKind.wrap .u32 (((IntKind.wrap .u32 (((Int.tmod ((IntKind.wrap .u32 (Int.tdiv (IntKind.wrap .u32 (Int.tmod s0.1 100000000)) 10000))) 100)) * 2))) + 1))) k1_.length then (bif inR ((IntKind.wrap .u32 (((Int.tmod ((IntKind.wrap .u32 (Int.tdiv (IntKind.wrap .u32 (Int.tmod s0.1 100000000)) 10000))) 100)) * 2))) k1_.length then (bif inR (IntKind.wrap .i64 (s0.2.1 - 5)) x0.toNat then (bif inP 0 (IntKind.wrap .i64 (s0.2.1 - 5)) ((setAt ((setAt ((setAt ((setAt s0.2.2 ((0 : Nat) + (IntKind.wrap .i64 (s0.2.1 - 1)) : Int) ((((k1_.getD ((IntKind.wrap .u32 (((IntKind.wrap .u32 (((Int.tmod ((Int.tmod (IntKind.wrap .u32 (Int.tmod s0.1 100000000)) 10000)) 100)) * 2))) + 1)) : Int).toNat 0).toNat : Nat) : Int)))) ((0 : Nat) + (IntKind.wrap .i64 (s0.2.1 - 2)) : Int) ((((k1_.getD ((IntKind.wrap .u32 (((Int.tmod ((Int.tmod (IntKind.wrap .u32 (Int.tmod s0.1 100000000)) 10000)) 100)) * 2)) : Int).toNat 0).toNat : Nat) : Int)))) ((0 : Nat) + (IntKind.wrap .i64 (s0.2.1 - 3)) : Int) ((((k1_.getD ((IntKind.wrap .u32 (((IntKind.wrap .u32 (((IntKind.wrap .u32 (Int.tdiv ((Int.tmod (IntKind.wrap .u32 (Int.tmod s0.1 100000000)) 10000)) 100))) * 2))) + 1)) : Int).toNat 0).toNat : Nat) : Int)))) ((0 : Nat) + (IntKind.wrap .i64 (s0.2.1 - 4)) : Int) ((((k1_.getD ((IntKind.wrap .u32 (((IntKind.wrap .u32 (Int.tdiv ((Int.tmod (IntKind.wrap .u32 (Int.tmod s0.1 100000000)) 10000)) 100))) * 2)) : Int).toNat 0).toNat : Nat) : Int)))).length then (bif inR (IntKind.wrap .i64 (s0.2.1 - 6)) x0.toNat then (bif inP 0 (IntKind.wrap .i64 (s0.2.1 - 6)) ((setAt ((setAt ((setAt ((setAt ((setAt s0.2.2 ((0 : Nat) + (IntKind.wrap .i64 (s0.2.1 - 1)) : Int) ((((k1_.getD ((IntKind.wrap .u32 (((IntKind.wrap .u32 (((Int.tmod ((Int.tmod (IntKind.wrap .u32 (Int.tmod s0.1 100000000)) 10000)) 100)) * 2))) + 1)) : Int).toNat 0).toNat : Nat) : Int)))) ((0 : Nat) + (IntKind.wrap .i64 (s0.2.1 - 2)) : Int) ((((k1_.getD ((IntKind.wrap .u32 (((Int.tmod ((Int.tmod (IntKind.wrap .u32 (Int.tmod s0.1 100000000)) 10000)) 100)) * 2)) : Int).toNat 0).toNat : Nat) : Int)))) ((0 : Nat) + (IntKind.wrap .i64 (s0.2.1 - 3)) : Int) ((((k1_.getD ((IntKind.wrap .u32 (((IntKind.wrap .u32 (((IntKind.wrap .u32 (Int.tdiv ((Int.tmod (IntKind.wrap .u32 (Int.tmod s0.1 100000000)) 10000)) 100))) * 2))) + 1)) : Int).toNat 0).toNat : Nat) : Int)))) ((0 : Nat) + (IntKind.wrap .i64 (s0.2.1 - 4)) : Int) ((((k1_.getD ((IntKind.wrap .u32 (((IntKind.wrap .u32 (Int.tdiv ((Int.tmod (IntKind.wrap .u32 (Int.tmod s0.1 100000000)) 10000)) 100))) * 2)) : Int).toNat 0).toNat : Nat) : Int)))) ((0 : Nat) + (IntKind.wrap .i64 (s0.2.1 - 5)) : Int) ((((k1_.getD ((IntKind.wrap .u32 (((IntKind.wrap .u32 (((Int.tmod ((IntKind.wrap .u32 (Int.tdiv (IntKind.wrap .u32 (Int.tmod s0.1 100000000)) 10000))) 100)) * 2))) + 1)) : Int).toNat 0).toNat : Nat) : Int)))).length then (bif inR ((IntKind.wrap .u32 (((IntKind.wrap .u32 (((IntKind.wrap .u32 (Int.tdiv ((IntKind.wrap .u32 (Int.tdiv (IntKind.wrap .u32 (Int.tmod s0.1 100000000)) 10000))) 100))) * 2))) + 1))) k1_.length then (bif inR ((IntKind.wrap .u32 (((IntKind.wrap .u32 (Int.tdiv ((IntKind.wrap .u32 (Int.tdiv (IntKind.wrap .u32 (Int.tmod s0.1 100000000)) 10000))) 100))) * 2))) k1_.length then (bif inR (IntKind.wrap .i64 (s0.2.1 - 7)) x0.toNat then (bif inP 0 (IntKind.wrap .i64 (s0.2.1 - 7)) ((setAt ((setAt ((setAt ((setAt ((setAt ((setAt s0.2.2 ((0 : Nat) + (IntKind.wrap .i64 (s0.2.1 - 1)) : Int) ((((k1_.getD ((IntKind.wrap .u32 (((IntKind.wrap .u32 (((Int.tmod ((Int.tmod (IntKind.wrap .u32 (Int.tmod s0.1 100000000)) 10000)) 100)) * 2))) + 1)) : Int).toNat 0).toNat : Nat) : Int)))) ((0 : Nat) + (IntKind.wrap .i64 (s0.2.1 - 2)) : Int) ((((k1_.getD ((IntKind.wrap .u32 (((Int.tmod ((Int.tmod (IntKind.wrap .u32 (Int.tmod s0.1 100000000)) 10000)) 100)) * 2)) : Int).toNat 0).toNat : Nat) : Int)))) ((0 : Nat) + (IntKind.wrap .i64 (s0.2.1 - 3)) : Int) ((((k1_.getD ((IntKind.wrap .u32 (((IntKind.wrap .u32 (((IntKind.wrap .u32 (Int.tdiv ((Int.tmod (IntKind.wrap .u32 (Int.tmod s0.1 100000000)) 10000)) 100))) * 2))) + 1)) : Int).toNat 0).toNat : Nat) : Int)))) ((0 : Nat) + (IntKind.wrap .i64 (s0.2.1 - 4)) : Int) ((((k1_.getD ((IntKind.wrap .u32 (((IntKind.wrap .u32 (Int.tdiv ((Int.tmod (IntKind.wrap .u32 (Int.tmod s0.1 100000000)) 10000)) 100))) * 2)) : Int).toNat 0).toNat : Nat) : Int)))) ((0 : Nat) + (IntKind.wrap .i64 (s0.2.1 - 5)) : Int) ((((k1_.getD ((IntKind.wrap .u32 (((IntKind.wrap .u32 (((Int.tmod ((IntKind.wrap .u32 (Int.tdiv (IntKind.wrap .u32 (Int.tmod s0.1 100000000)) 10000))) 100)) * 2))) + 1)) : Int).toNat 0).toNat : Nat) : Int)))) ((0 : Nat) + (IntKind.wrap .i64 (s0.2.1 - 6)) : Int) ((((k1_.getD ((IntKind.wrap .u32 (((Int.tmod ((IntKind.wrap .u32 (Int.tdiv (IntKind.wrap .u32 (Int.tmod s0.1 100000000)) 10000))) 100)) * 2)) : Int).toNat 0).toNat : Nat) : Int)))).length then (bif inR (IntKind.wrap .i64 (s0.2.1 - 8)) x0.toNat then (bif inP 0 (IntKind.wrap .i64 (s0.2.1 - 8)) ((setAt ((setAt ((setAt ((setAt ((setAt ((setAt ((setAt s0.2.2 ((0 : Nat) + (IntKind.wrap .i64 (s0.2.1 - 1)) : Int) ((((k1_.getD ((IntKind.wrap .u32 (((IntKind.wrap .u32 (((Int.tmod ((Int.tmod (IntKind.wrap .u32 (Int.tmod s0.1 100000000)) 10000)) 100)) * 2))) + 1)) : Int).toNat 0).toNat : Nat) : Int)))) ((0 : Nat) + (IntKind.wrap .i64 (s0.2.1 - 2)) : Int) ((((k1_.getD ((IntKind.wrap .u32 (((Int.tmod ((Int.tmod (IntKind.wrap .u32 (Int.tmod s0.1 100000000)) 10000)) 100)) * 2)) : Int).toNat 0).toNat : Nat) : Int)))) ((0 : Nat) + (IntKind.wrap .i64 (s0.2.1 - 3)) : Int) ((((k1_.getD ((IntKind.wrap .u32 (((IntKind.wrap .u32 (((IntKind.wrap .u32 (Int.tdiv ((Int.tmod (IntKind.wrap .u32 (Int.tmod s0.1 100000000)) 10000)) 100))) * 2))) + 1)) : Int).toNat 0).toNat : Nat) : Int)))) ((0 : Nat) + (IntKind.wrap .i64 (s0.2.1 - 4)) : Int) ((((k1_.getD ((IntKind.wrap .u32 (((IntKind.wrap .u32 (Int.tdiv ((Int.tmod (IntKind.wrap .u32 (Int.tmod s0.1 100000000)) 10000)) 100))) * 2)) : Int).toNat 0).toNat : Nat) : Int)))) ((0 : Nat) + (IntKind.wrap .i64 (s0.2.1 - 5)) : Int) ((((k1_.getD ((IntKind.wrap .u32 (((IntKind.wrap .u32 (((Int.tmod ((IntKind.wrap .u32 (Int.tdiv (IntKind.wrap .u32 (Int.tmod s0.1 100000000)) 10000))) 100)) * 2))) + 1)) : Int).toNat 0).toNat : Nat) : Int)))) ((0 : Nat) + (IntKind.wrap .i64 (s0.2.1 - 6)) : Int) ((((k1_.getD ((IntKind.wrap .u32 (((Int.tmod ((IntKind.wrap .u32 (Int.tdiv (IntKind.wrap .u32 (Int.tmod s0.1 100000000)) 10000))) 100)) * 2)) : Int).toNat 0).toNat : Nat) : Int)))) ((0 : Nat) + (IntKind.wrap .i64 (s0.2.1 - 7)) : Int) ((((k1_.getD ((IntKind.wrap .u32 (((IntKind.wrap .u32 (((IntKind.wrap .u32 (Int.tdiv ((IntKind.wrap .u32 (Int.tdiv (IntKind.wrap .u32 (Int.tmod s0.1 100000000)) 10000))) 100))) * 2))) + 1)) : Int).toNat 0).toNat : Nat) : Int)))).length then (some (.inl ((IntKind.wrap .u64 (Int.tdiv s0.1 100000000)), (IntKind.wrap .i64 (s0.2.1 - 8)), (setAt ((setAt ((setAt ((setAt ((setAt ((setAt ((setAt ((setAt s0.2.2 ((0 : Nat) + (IntKind.wrap .i64 (s0.2.1 - 1)) : Int) ((((k1_.getD ((IntKind.wrap .u32 (((IntKind.wrap .u32 (((Int.tmod ((Int.tmod (IntKind.wrap .u32 (Int.tmod s0.1 100000000)) 10000)) 100)) * 2))) + 1)) : Int).toNat 0).toNat : Nat) : Int)))) ((0 : Nat) + (IntKind.wrap .i64 (s0.2.1 - 2)) : Int) ((((k1_.getD ((IntKind.wrap .u32 (((Int.tmod ((Int.tmod (IntKind.wrap .u32 (Int.tmod s0.1 100000000)) 10000)) 100)) * 2)) : Int).toNat 0).toNat : Nat) : Int)))) ((0 : Nat) + (IntKind.wrap .i64 (s0.2.1 - 3)) : Int) ((((k1_.getD ((IntKind.wrap .u32 (((IntKind.wrap .u32 (((IntKind.wrap .u32 (Int.tdiv ((Int.tmod (IntKind.wrap .u32 (Int.tmod s0.1 100000000)) 10000)) 100))) * 2))) + 1)) : Int).toNat 0).toNat : Nat) : Int)))) ((0 : Nat) + (IntKind.wrap .i64 (s0.2.1 - 4)) : Int) ((((k1_.getD ((IntKind.wrap .u32 (((IntKind.wrap .u32 (Int.tdiv ((Int.tmod (IntKind.wrap .u32 (Int.tmod s0.1 100000000)) 10000)) 100))) * 2)) : Int).toNat 0).toNat : Nat) : Int)))) ((0 : Nat) + (IntKind.wrap .i64 (s0.2.1 - 5)) : Int) ((((k1_.getD ((IntKind.wrap .u32 (((IntKind.wrap .u32 (((Int.tmod ((IntKind.wrap .u32 (Int.tdiv (IntKind.wrap .u32 (Int.tmod s0.1 100000000)) 10000))) 100)) * 2))) + 1)) : Int).toNat 0).toNat : Nat) : Int)))) ((0 : Nat) + (IntKind.wrap .i64 (s0.2.1 - 6)) : Int) ((((k1_.getD ((IntKind.wrap .u32 (((Int.tmod ((IntKind.wrap .u32 (Int.tdiv (IntKind.wrap .u32 (Int.tmod s0.1 100000000)) 10000))) 100)) * 2)) : Int).toNat 0).toNat : Nat) : Int)))) ((0 : Nat) + (IntKind.wrap .i64 (s0.2.1 - 7)) : Int) ((((k1_.getD ((IntKind.wrap .u32 (((IntKind.wrap .u32 (((IntKind.wrap .u32 (Int.tdiv ((IntKind.wrap .u32 (Int.tdiv (IntKind.wrap .u32 (Int.tmod s0.1 100000000)) 10000))) 100))) * 2))) + 1)) : Int).toNat 0).toNat : Nat) : Int)))) ((0 : Nat) + (IntKind.wrap .i64 (s0.2.1 - 8)) : Int) ((((k1_.getD ((IntKind.wrap .u32 (((IntKind.wrap .u32 (Int.tdiv ((IntKind.wrap .u32 (Int.tdiv (IntKind.wrap .u32 (Int.tmod s0.1 100000000)) 10000))) 100))) * 2)) : Int).toNat 0).toNat : Nat) : Int)))))) else none) else none) else none) else none) else none) else none) else none) else none) else none) else none) else none) else none) else none) else none) else none) else none) else none) else none) else none) else none) else none) else none) else none) else none) else (some (.inr (s0.1, s0.2.1, s0.2.2))))) big (x1, ((x0.toNat : Nat) : Int), x2)) fun (s1 : Int × Int × (List Int)) => (Option.bind (bif (decide (s1.2.1 ≥ 4)) then (bif inR ((IntKind.wrap .u32 (((IntKind.wrap .u32 (((Int.tmod (Int.tmod (IntKind.wrap .u32 s1.1) 10000) 100)) * 2))) + 1))) k1_.length then (bif inR ((IntKind.wrap .u32 (((Int.tmod (Int.tmod (IntKind.wrap .u32 s1.1) 10000) 100)) * 2))) k1_.length then (bif inR (IntKind.wrap .i64 (s1.2.1 - 1)) x0.toNat then (bif inP 0 (IntKind.wrap .i64 (s1.2.1 - 1)) s1.2.2.length then (bif inR (IntKind.wrap .i64 (s1.2.1 - 2)) x0.toNat then (bif inP 0 (IntKind.wrap .i64 (s1.2.1 - 2)) ((setAt s1.2.2 ((0 : Nat) + (IntKind.wrap .i64 (s1.2.1 - 1)) : Int) ((((k1_.getD ((IntKind.wrap .u32 (((IntKind.wrap .u32 (((Int.tmod (Int.tmod (IntKind.wrap .u32 s1.1) 10000) 100)) * 2))) + 1)) : Int).toNat 0).toNat : Nat) : Int)))).length then (bif inR ((IntKind.wrap .u32 (((IntKind.wrap .u32 (((IntKind.wrap .u32 (Int.tdiv (Int.tmod (IntKind.wrap .u32 s1.1) 10000) 100))) * 2))) + 1))) k1_.length then (bif inR ((IntKind.wrap .u32 (((IntKind.wrap .u32 (Int.tdiv (Int.tmod (IntKind.wrap .u32 s1.1) 10000) 100))) * 2))) k1_.length then (bif inR (IntKind.wrap .i64 (s1.2.1 - 3)) x0.toNat then (bif inP 0 (IntKind.wrap .i64 (s1.2.1 - 3)) ((setAt ((setAt s1.2.2 ((0 : Nat) + (IntKind.wrap .i64 (s1.2.1 - 1)) : Int) ((((k1_.getD ((IntKind.wrap .u32 (((IntKind.wrap .u32 (((Int.tmod (Int.tmod (IntKind.wrap .u32 s1.1) 10000) 100)) * 2))) + 1)) : Int).toNat 0).toNat : Nat) : Int)))) ((0 : Nat) + (IntKind.wrap .i64 (s1.2.1 - 2)) : Int) ((((k1_.getD ((IntKind.wrap .u32 (((Int.tmod (Int.tmod (IntKind.wrap .u32 s1.1) 10000) 100)) * 2)) : Int).toNat 0).toNat : Nat) : Int)))).length then (bif inR (IntKind.wrap .i64 (s1.2.1 - 4)) x0.toNat then (bif inP 0 (IntKind.wrap .i64 (s1.2.1 - 4)) ((setAt ((setAt ((setAt s1.2.2 ((0 : Nat) + (IntKind.wrap .i64 (s1.2.1 - 1)) : Int) ((((k1_.getD ((IntKind.wrap .u32 (((IntKind.wrap .u32 (((Int.tmod (Int.tmod (IntKind.wrap .u32 s1.1) 10000) 100)) * 2))) + 1)) : Int).toNat 0).toNat : Nat) : Int)))) ((0 : Nat) + (IntKind.wrap .i64 (s1.2.1 - 2)) : Int) ((((k1_.getD ((IntKind.wrap .u32 (((Int.tmod (Int.tmod (IntKind.wrap .u32 s1.1) 10000) 100)) * 2)) : Int).toNat 0).toNat : Nat) : Int)))) ((0 : Nat) + (IntKind.wrap .i64 (s1.2.1 - 3)) : Int) ((((k1_.getD ((IntKind.wrap .u32 (((IntKind.wrap .u32 (((IntKind.wrap .u32 (Int.tdiv (Int.tmod (IntKind.wrap .u32 s1.1) 10000) 100))) * 2))) + 1)) : Int).toNat 0).toNat : Nat) : Int)))).length then (some ((IntKind.wrap .i64 (s1.2.1 - 4)), (IntKind.wrap .u32 (Int.tdiv (IntKind.wrap .u32 s1.1) 10000)), (setAt ((setAt ((setAt ((setAt s1.2.2 ((0 : Nat) + (IntKind.wrap .i64 (s1.2.1 - 1)) : Int) ((((k1_.getD ((IntKind.wrap .u32 (((IntKind.wrap .u32 (((Int.tmod (Int.tmod (IntKind.wrap .u32 s1.1) 10000) 100)) * 2))) + 1)) : Int).toNat 0).toNat : Nat) : Int)))) ((0 : Nat) + (IntKind.wrap .i64 (s1.2.1 - 2)) : Int) ((((k1_.getD ((IntKind.wrap .u32 (((Int.tmod (Int.tmod (IntKind.wrap .u32 s1.1) 10000) 100)) * 2)) : Int).toNat 0).toNat : Nat) : Int)))) ((0 : Nat) + (IntKind.wrap .i64 (s1.2.1 - 3)) : Int) ((((k1_.getD ((IntKind.wrap .u32 (((IntKind.wrap .u32 (((IntKind.wrap .u32 (Int.tdiv (Int.tmod (IntKind.wrap .u32 s1.1) 10000) 100))) * 2))) + 1)) : Int).toNat 0).toNat : Nat) : Int)))) ((0 : Nat) + (IntKind.wrap .i64 (s1.2.1 - 4)) : Int) ((((k1_.getD ((IntKind.wrap .u32 (((IntKind.wrap .u32 (Int.tdiv (Int.tmod (IntKind.wrap .u32 s1.1) 10000) 100))) * 2)) : Int).toNat 0).toNat : Nat) : Int))))) else none) else none) else none) else none) else none) else none) else none) else none) else none) else none) else none) else none) else (some (s1.2.1, (IntKind.wrap .u32 s1.1), s1.2.2))) fun (s2 : Int × Int × (List Int)) => (Option.bind (bif (decide (s2.1 ≥ 2)) then (bif inR ((IntKind.wrap .u32 (((IntKind.wrap .u32 ((Int.tmod s2.2.1 100) * 2))) + 1))) k1_.length then (bif inR ((IntKind.wrap .u32 ((Int.tmod s2.2.1 100) * 2))) k1_.length then (bif inR (IntKind.wrap .i64 (s2.1 - 1)) x0.toNat then (bif inP 0 (IntKind.wrap .i64 (s2.1 - 1)) s2.2.2.length then (bif inR (IntKind.wrap .i64 (s2.1 - 2)) x0.toNat then (bif inP 0 (IntKind.wrap .i64 (s2.1 - 2)) ((setAt s2.2.2 ((0 : Nat) + (IntKind.wrap .i64 (s2.1 - 1)) : Int) ((((k1_.getD ((IntKind.wrap .u32 (((IntKind.wrap .u32 ((Int.tmod s2.2.1 100) * 2))) + 1)) : Int).toNat 0).toNat : Nat) : Int)))).length then (some ((IntKind.wrap .i64 (s2.1 - 2)), (IntKind.wrap .u32 (Int.tdiv s2.2.1 100)), (setAt ((setAt s2.2.2 ((0 : Nat) + (IntKind.wrap .i64 (s2.1 - 1)) : Int) ((((k1_.getD ((IntKind.wrap .u32 (((IntKind.wrap .u32 ((Int.tmod s2.2.1 100) * 2))) + 1)) : Int).toNat 0).toNat : Nat) : Int)))) ((0 : Nat) + (IntKind.wrap .i64 (s2.1 - 2)) : Int) ((((k1_.getD ((IntKind.wrap .u32 ((Int.tmod s2.2.1 100) * 2)) : Int).toNat 0).toNat : Nat) : Int))))) else none) else none) else none) else none) else none) else none) else (some (s2.1, s2.2.1, s2.2.2))) fun (s3 : Int × Int × (List Int)) => (bif (decide (s3.1 > 0)) then (bif inR 0 x0.toNat then (bif inP 0 0 s3.2.2.length then (some ((setAt s3.2.2 ((0 : Nat) + 0 : Int) ((IntKind.wrap .u8 (IntKind.wrap .u32 (48 + s3.2.1))))))) else none) else none) else (some s3.2.2)))))
theorem strconv_formatBase10_s0_ok {x0 x1 : Int} {x2 : List Int} {r : (List Int)} (h : strconv_formatBase10_s0 x0 x1 x2 = some r) : SC Tryz.prog 218 [.sl 0 0 x0.toNat 1, .int .u64 x1] [.box (x2.flatMap (encI .u8))] (.tup []) [.box (r.flatMap (encI .u8))] := by
 refine kFn (fn := Tryz.f218) (fun F hFn hFH hFD => ?_)
 unfold strconv_formatBase10_s0 at h
 refine kq (kcN h (fun (s1 : Int × Int × (List Int)) => ([(0, .sl 0 0 x0.toNat 1), (1, .int .u64 s1.1), (4, iL s1.2.1)], [.box (s1.2.2.flatMap (encI .u8))])) (fun s1 hy0 => ?_) (fun s1 h0 => ?_))
 ·refine kb 0 (kl (fun (s0 : Int × Int × (List Int)) => ([(0, .sl 0 0 x0.toNat 1), (1, .int .u64 s0.1), (4, iL s0.2.1)], [.box (s0.2.2.flatMap (encI .u8))])) hy0 [0, 1, 4] (fun s0 x156 hs0 => kS (kq (kBT 20 hs0 (fun h1 => ?_) (fun h2 => ?_)))))
  ·refine kKN (kb 1 (kq (kq (kq (kq (kq (kS (kDr (kD 8 ?_)))))))))
   obtain ⟨hm, h3⟩ := asrt h1
   refine kQ 50 (.int .u8 (((k1_.getD ((IntKind.wrap .u32 (((IntKind.wrap .u32 (((Int.tmod ((Int.tmod (IntKind.wrap .u32 (Int.tmod s0.1 100000000)) 10000)) 100)) * 2))) + 1)) : Int).toNat 0).toNat : Nat) : Int)) [] (tr2 := [([], []), ([], []), ([], []), ([], []), ([], []), ([], []), ([], []), ([], []), ([], [])]) hm (kD 1 ?_)
   obtain ⟨hm, h4⟩ := asrt h3
   refine kQ 52 (.int .u8 (((k1_.getD ((IntKind.wrap .u32 (((Int.tmod ((Int.tmod (IntKind.wrap .u32 (Int.tmod s0.1 100000000)) 10000)) 100)) * 2)) : Int).toNat 0).toNat : Nat) : Int)) [] (tr2 := [([], []), ([], []), ([], []), ([], []), ([], []), ([], []), ([], []), ([], []), ([], []), ([], []), ([], [])]) hm ?_
   obtain ⟨hm, h5⟩ := asrt h4
   refine kQ 53 (.ptr 0 (0 + ((IntKind.wrap .i64 (s0.2.1 - 1)) : Int).toNat * 1)) [] (tr2 := [([], []), ([], []), ([], []), ([], []), ([], []), ([], []), ([], []), ([], []), ([], []), ([], []), ([], []), ([], [])]) hm ?_
   obtain ⟨hm, h6⟩ := asrt h5
   refine kSB 0 [([], []), ([], []), ([], []), ([], []), ([], []), ([], []), ([], []), ([], []), ([], []), ([], []), ([], []), ([], []), ([0, 1], [0])] (encI_len .u8) ((((k1_.getD ((IntKind.wrap .u32 (((IntKind.wrap .u32 (((Int.tmod ((Int.tmod (IntKind.wrap .u32 (Int.tmod s0.1 100000000)) 10000)) 100)) * 2))) + 1)) : Int).toNat 0).toNat : Nat) : Int)) hm ?_
   obtain ⟨hm, h7⟩ := asrt h6
   refine kQ 54 (.ptr 0 (0 + ((IntKind.wrap .i64 (s0.2.1 - 2)) : Int).toNat * 1)) [] (tr2 := [([], []), ([], []), ([], []), ([], []), ([], []), ([], []), ([], []), ([], []), ([], []), ([], []), ([], []), ([], []), ([0, 1], [0]), ([], [])]) hm ?_
   obtain ⟨hm, h8⟩ := asrt h7
   refine kSB 0 [([], []), ([], []), ([], []), ([], []), ([], []), ([], []), ([], []), ([], []), ([], []), ([], []), ([], []), ([], []), ([0, 1], [0]), ([], []), ([0, 1], [0])] (encI_len .u8) ((((k1_.getD ((IntKind.wrap .u32 (((Int.tmod ((Int.tmod (IntKind.wrap .u32 (Int.tmod s0.1 100000000)) 10000)) 100)) * 2)) : Int).toNat 0).toNat : Nat) : Int)) hm (kEN (kS (kDr (kD 8 ?_))))
   obtain ⟨hm, h9⟩ := asrt h8
   refine kQ 63 (.int .u8 (((k1_.getD ((IntKind.wrap .u32 (((IntKind.wrap .u32 (((IntKind.wrap .u32 (Int.tdiv ((Int.tmod (IntKind.wrap .u32 (Int.tmod s0.1 100000000)) 10000)) 100))) * 2))) + 1)) : Int).toNat 0).toNat : Nat) : Int)) [] (tr2 := [([], []), ([], []), ([], []), ([], []), ([], []), ([], []), ([], []), ([], []), ([], [])]) hm (kD 1 ?_)
   obtain ⟨hm, h10⟩ := asrt h9
   refine kQ 65 (.int .u8 (((k1_.getD ((IntKind.wrap .u32 (((IntKind.wrap .u32 (Int.tdiv ((Int.tmod (IntKind.wrap .u32 (Int.tmod s0.1 100000000)) 10000)) 100))) * 2)) : Int).toNat 0).toNat : Nat) : Int)) [] (tr2 := [([], []), ([], []), ([], []), ([], []), ([], []), ([], []), ([], []), ([], []), ([], []), ([], []), ([], [])]) hm ?_
   obtain ⟨hm, h11⟩ := asrt h10
   refine kQ 66 (.ptr 0 (0 + ((IntKind.wrap .i64 (s0.2.1 - 3)) : Int).toNat * 1)) [] (tr2 := [([], []), ([], []), ([], []), ([], []), ([], []), ([], []), ([], []), ([], []), ([], []), ([], []), ([], []), ([], [])]) hm ?_
   obtain ⟨hm, h12⟩ := asrt h11
   refine kSB 0 [([], []), ([], []), ([], []), ([], []), ([], []), ([], []), ([], []), ([], []), ([], []), ([], []), ([], []), ([], []), ([0, 1], [0])] (encI_len .u8) ((((k1_.getD ((IntKind.wrap .u32 (((IntKind.wrap .u32 (((IntKind.wrap .u32 (Int.tdiv ((Int.tmod (IntKind.wrap .u32 (Int.tmod s0.1 100000000)) 10000)) 100))) * 2))) + 1)) : Int).toNat 0).toNat : Nat) : Int)) hm ?_
   obtain ⟨hm, h13⟩ := asrt h12
   refine kQ 67 (.ptr 0 (0 + ((IntKind.wrap .i64 (s0.2.1 - 4)) : Int).toNat * 1)) [] (tr2 := [([], []), ([], []), ([], []), ([], []), ([], []), ([], []), ([], []), ([], []), ([], []), ([], []), ([], []), ([], []), ([0, 1], [0]), ([], [])]) hm ?_
   obtain ⟨hm, h14⟩ := asrt h13
   refine kSB 0 [([], []), ([], []), ([], []), ([], []), ([], []), ([], []), ([], []), ([], []), ([], []), ([], []), ([], []), ([], []), ([0, 1], [0]), ([], []), ([0, 1], [0])] (encI_len .u8) ((((k1_.getD ((IntKind.wrap .u32 (((IntKind.wrap .u32 (Int.tdiv ((Int.tmod (IntKind.wrap .u32 (Int.tmod s0.1 100000000)) 10000)) 100))) * 2)) : Int).toNat 0).toNat : Nat) : Int)) hm (kEN (kS (kDr (kD 8 ?_))))
   obtain ⟨hm, h15⟩ := asrt h14
   refine kQ 76 (.int .u8 (((k1_.getD ((IntKind.wrap .u32 (((IntKind.wrap .u32 (((Int.tmod ((IntKind.wrap .u32 (Int.tdiv (IntKind.wrap .u32 (Int.tmod s0.1 100000000)) 10000))) 100)) * 2))) + 1)) : Int).toNat 0).toNat : Nat) : Int)) [] (tr2 := [([], []), ([], []), ([], []), ([], []), ([], []), ([], []), ([], []), ([], []), ([], [])]) hm (kD 1 ?_)
   obtain ⟨hm, h16⟩ := asrt h15
   refine kQ 78 (.int .u8 (((k1_.getD ((IntKind.wrap .u32 (((Int.tmod ((IntKind.wrap .u32 (Int.tdiv (IntKind.wrap .u32 (Int.tmod s0.1 100000000)) 10000))) 100)) * 2)) : Int).toNat 0).toNat : Nat) : Int)) [] (tr2 := [([], []), ([], []), ([], []), ([], []), ([], []), ([], []), ([], []), ([], []), ([], []), ([], []), ([], [])]) hm ?_
   obtain ⟨hm, h17⟩ := asrt h16
   refine kQ 79 (.ptr 0 (0 + ((IntKind.wrap .i64 (s0.2.1 - 5)) : Int).toNat * 1)) [] (tr2 := [([], []), ([], []), ([], []), ([], []), ([], []), ([], []), ([], []), ([], []), ([], []), ([], []), ([], []), ([], [])]) hm ?_
   obtain ⟨hm, h18⟩ := asrt h17
   refine kSB 0 [([], []), ([], []), ([], []), ([], []), ([], []), ([], []), ([], []), ([], []), ([], []), ([], []), ([], []), ([], []), ([0, 1], [0])] (encI_len .u8) ((((k1_.getD ((IntKind.wrap .u32 (((IntKind.wrap .u32 (((Int.tmod ((IntKind.wrap .u32 (Int.tdiv (IntKind.wrap .u32 (Int.tmod s0.1 100000000)) 10000))) 100)) * 2))) + 1)) : Int).toNat 0).toNat : Nat) : Int)) hm ?_
   obtain ⟨hm, h19⟩ := asrt h18
   refine kQ 80 (.ptr 0 (0 + ((IntKind.wrap .i64 (s0.2.1 - 6)) : Int).toNat * 1)) [] (tr2 := [([], []), ([], []), ([], []), ([], []), ([], []), ([], []), ([], []), ([], []), ([], []), ([], []), ([], []), ([], []), ([0, 1], [0]), ([], [])]) hm ?_
   obtain ⟨hm, h20⟩ := asrt h19
   refine kSB 0 [([], []), ([], []), ([], []), ([], []), ([], []), ([], []), ([], []), ([], []), ([], []), ([], []), ([], []), ([], []), ([0, 1], [0]), ([], []), ([0, 1], [0])] (encI_len .u8) ((((k1_.getD ((IntKind.wrap .u32 (((Int.tmod ((IntKind.wrap .u32 (Int.tdiv (IntKind.wrap .u32 (Int.tmod s0.1 100000000)) 10000))) 100)) * 2)) : Int).toNat 0).toNat : Nat) : Int)) hm (kEN (kS (kDr (kD 8 ?_))))
   obtain ⟨hm, h21⟩ := asrt h20
   refine kQ 89 (.int .u8 (((k1_.getD ((IntKind.wrap .u32 (((IntKind.wrap .u32 (((IntKind.wrap .u32 (Int.tdiv ((IntKind.wrap .u32 (Int.tdiv (IntKind.wrap .u32 (Int.tmod s0.1 100000000)) 10000))) 100))) * 2))) + 1)) : Int).toNat 0).toNat : Nat) : Int)) [] (tr2 := [([], []), ([], []), ([], []), ([], []), ([], []), ([], []), ([], []), ([], []), ([], [])]) hm (kD 1 ?_)
   obtain ⟨hm, h22⟩ := asrt h21
   refine kQ 91 (.int .u8 (((k1_.getD ((IntKind.wrap .u32 (((IntKind.wrap .u32 (Int.tdiv ((IntKind.wrap .u32 (Int.tdiv (IntKind.wrap .u32 (Int.tmod s0.1 100000000)) 10000))) 100))) * 2)) : Int).toNat 0).toNat : Nat) : Int)) [] (tr2 := [([], []), ([], []), ([], []), ([], []), ([], []), ([], []), ([], []), ([], []), ([], []), ([], []), ([], [])]) hm ?_
   obtain ⟨hm, h23⟩ := asrt h22
   refine kQ 92 (.ptr 0 (0 + ((IntKind.wrap .i64 (s0.2.1 - 7)) : Int).toNat * 1)) [] (tr2 := [([], []), ([], []), ([], []), ([], []), ([], []), ([], []), ([], []), ([], []), ([], []), ([], []), ([], []), ([], [])]) hm ?_
   obtain ⟨hm, h24⟩ := asrt h23
   refine kSB 0 [([], []), ([], []), ([], []), ([], []), ([], []), ([], []), ([], []), ([], []), ([], []), ([], []), ([], []), ([], []), ([0, 1], [0])] (encI_len .u8) ((((k1_.getD ((IntKind.wrap .u32 (((IntKind.wrap .u32 (((IntKind.wrap .u32 (Int.tdiv ((IntKind.wrap .u32 (Int.tdiv (IntKind.wrap .u32 (Int.tmod s0.1 100000000)) 10000))) 100))) * 2))) + 1)) : Int).toNat 0).toNat : Nat) : Int)) hm ?_
   obtain ⟨hm, h25⟩ := asrt h24
   refine kQ 93 (.ptr 0 (0 + ((IntKind.wrap .i64 (s0.2.1 - 8)) : Int).toNat * 1)) [] (tr2 := [([], []), ([], []), ([], []), ([], []), ([], []), ([], []), ([], []), ([], []), ([], []), ([], []), ([], []), ([], []), ([0, 1], [0]), ([], [])]) hm ?_
   obtain ⟨hm, h26⟩ := asrt h25
   exact kSB 0 [([], []), ([], []), ([], []), ([], []), ([], []), ([], []), ([], []), ([], []), ([], []), ([], []), ([], []), ([], []), ([0, 1], [0]), ([], []), ([0, 1], [0])] (encI_len .u8) ((((k1_.getD ((IntKind.wrap .u32 (((IntKind.wrap .u32 (Int.tdiv ((IntKind.wrap .u32 (Int.tdiv (IntKind.wrap .u32 (Int.tmod s0.1 100000000)) 10000))) 100))) * 2)) : Int).toNat 0).toNat : Nat) : Int)) hm (kEN (kM (PJ.blockNormal (kLo h26 [0, 1, 4]))))
  ·exact kEp 0 (kLx h2 (fun h27 => PJ.blockOut (kNo h27 [0, 1, 4])))
 ·refine kq (kcN h0 (fun (s2 : Int × Int × (List Int)) => ([(0, .sl 0 0 x0.toNat 1), (4, iL s2.1), (12, .int .u32 s2.2.1)], [.box (s2.2.2.flatMap (encI .u8))])) (fun s2 hy1 => ?_) (fun s2 h28 => ?_))
  ·refine kq (kBT 99 hy1 (fun h29 => ?_) (fun h30 => ?_))
   ·refine kq (kq (kq (kS (kDr (kD 8 ?_)))))
    obtain ⟨hm, h31⟩ := asrt h29
    refine kQ 118 (.int .u8 (((k1_.getD ((IntKind.wrap .u32 (((IntKind.wrap .u32 (((Int.tmod (Int.tmod (IntKind.wrap .u32 s1.1) 10000) 100)) * 2))) + 1)) : Int).toNat 0).toNat : Nat) : Int)) [] (tr2 := [([], []), ([], []), ([], []), ([], []), ([], []), ([], []), ([], []), ([], []), ([], [])]) hm (kD 1 ?_)
    obtain ⟨hm, h32⟩ := asrt h31
    refine kQ 120 (.int .u8 (((k1_.getD ((IntKind.wrap .u32 (((Int.tmod (Int.tmod (IntKind.wrap .u32 s1.1) 10000) 100)) * 2)) : Int).toNat 0).toNat : Nat) : Int)) [] (tr2 := [([], []), ([], []), ([], []), ([], []), ([], []), ([], []), ([], []), ([], []), ([], []), ([], []), ([], [])]) hm ?_
    obtain ⟨hm, h33⟩ := asrt h32
    refine kQ 121 (.ptr 0 (0 + ((IntKind.wrap .i64 (s1.2.1 - 1)) : Int).toNat * 1)) [] (tr2 := [([], []), ([], []), ([], []), ([], []), ([], []), ([], []), ([], []), ([], []), ([], []), ([], []), ([], []), ([], [])]) hm ?_
    obtain ⟨hm, h34⟩ := asrt h33
    refine kSB 0 [([], []), ([], []), ([], []), ([], []), ([], []), ([], []), ([], []), ([], []), ([], []), ([], []), ([], []), ([], []), ([0, 1], [0])] (encI_len .u8) ((((k1_.getD ((IntKind.wrap .u32 (((IntKind.wrap .u32 (((Int.tmod (Int.tmod (IntKind.wrap .u32 s1.1) 10000) 100)) * 2))) + 1)) : Int).toNat 0).toNat : Nat) : Int)) hm ?_
    obtain ⟨hm, h35⟩ := asrt h34
    refine kQ 122 (.ptr 0 (0 + ((IntKind.wrap .i64 (s1.2.1 - 2)) : Int).toNat * 1)) [] (tr2 := [([], []), ([], []), ([], []), ([], []), ([], []), ([], []), ([], []), ([], []), ([], []), ([], []), ([], []), ([], []), ([0, 1], [0]), ([], [])]) hm ?_
    obtain ⟨hm, h36⟩ := asrt h35
    refine kSB 0 [([], []), ([], []), ([], []), ([], []), ([], []), ([], []), ([], []), ([], []), ([], []), ([], []), ([], []), ([], []), ([0, 1], [0]), ([], []), ([0, 1], [0])] (encI_len .u8) ((((k1_.getD ((IntKind.wrap .u32 (((Int.tmod (Int.tmod (IntKind.wrap .u32 s1.1) 10000) 100)) * 2)) : Int).toNat 0).toNat : Nat) : Int)) hm (kEN (kS (kDr (kD 8 ?_))))
    obtain ⟨hm, h37⟩ := asrt h36
    refine kQ 131 (.int .u8 (((k1_.getD ((IntKind.wrap .u32 (((IntKind.wrap .u32 (((IntKind.wrap .u32 (Int.tdiv (Int.tmod (IntKind.wrap .u32 s1.1) 10000) 100))) * 2))) + 1)) : Int).toNat 0).toNat : Nat) : Int)) [] (tr2 := [([], []), ([], []), ([], []), ([], []), ([], []), ([], []), ([], []), ([], []), ([], [])]) hm (kD 1 ?_)
    obtain ⟨hm, h38⟩ := asrt h37
    refine kQ 133 (.int .u8 (((k1_.getD ((IntKind.wrap .u32 (((IntKind.wrap .u32 (Int.tdiv (Int.tmod (IntKind.wrap .u32 s1.1) 10000) 100))) * 2)) : Int).toNat 0).toNat : Nat) : Int)) [] (tr2 := [([], []), ([], []), ([], []), ([], []), ([], []), ([], []), ([], []), ([], []), ([], []), ([], []), ([], [])]) hm ?_
    obtain ⟨hm, h39⟩ := asrt h38
    refine kQ 134 (.ptr 0 (0 + ((IntKind.wrap .i64 (s1.2.1 - 3)) : Int).toNat * 1)) [] (tr2 := [([], []), ([], []), ([], []), ([], []), ([], []), ([], []), ([], []), ([], []), ([], []), ([], []), ([], []), ([], [])]) hm ?_
    obtain ⟨hm, h40⟩ := asrt h39
    refine kSB 0 [([], []), ([], []), ([], []), ([], []), ([], []), ([], []), ([], []), ([], []), ([], []), ([], []), ([], []), ([], []), ([0, 1], [0])] (encI_len .u8) ((((k1_.getD ((IntKind.wrap .u32 (((IntKind.wrap .u32 (((IntKind.wrap .u32 (Int.tdiv (Int.tmod (IntKind.wrap .u32 s1.1) 10000) 100))) * 2))) + 1)) : Int).toNat 0).toNat : Nat) : Int)) hm ?_
    obtain ⟨hm, h41⟩ := asrt h40
    refine kQ 135 (.ptr 0 (0 + ((IntKind.wrap .i64 (s1.2.1 - 4)) : Int).toNat * 1)) [] (tr2 := [([], []), ([], []), ([], []), ([], []), ([], []), ([], []), ([], []), ([], []), ([], []), ([], []), ([], []), ([], []), ([0, 1], [0]), ([], [])]) hm ?_
    obtain ⟨hm, h42⟩ := asrt h41
    exact kSB 0 [([], []), ([], []), ([], []), ([], []), ([], []), ([], []), ([], []), ([], []), ([], []), ([], []), ([], []), ([], []), ([0, 1], [0]), ([], []), ([0, 1], [0])] (encI_len .u8) ((((k1_.getD ((IntKind.wrap .u32 (((IntKind.wrap .u32 (Int.tdiv (Int.tmod (IntKind.wrap .u32 s1.1) 10000) 100))) * 2)) : Int).toNat 0).toNat : Nat) : Int)) hm (kEN (kM (kNo h42 [0, 4, 12])))
   ·exact kK (kNo h30 [0, 4, 12])
  ·refine kcN h28 (fun (s3 : Int × Int × (List Int)) => ([(0, .sl 0 0 x0.toNat 1), (4, iL s3.1), (12, .int .u32 s3.2.1)], [.box (s3.2.2.flatMap (encI .u8))])) (fun s3 hy2 => ?_) (fun s3 h43 => ?_)
   ·refine kq (kBT 139 hy2 (fun h44 => ?_) (fun h45 => ?_))
    ·refine kq (kq (kS (kDr (kD 8 ?_))))
     obtain ⟨hm, h46⟩ := asrt h44
     refine kQ 153 (.int .u8 (((k1_.getD ((IntKind.wrap .u32 (((IntKind.wrap .u32 ((Int.tmod s2.2.1 100) * 2))) + 1)) : Int).toNat 0).toNat : Nat) : Int)) [] (tr2 := [([], []), ([], []), ([], []), ([], []), ([], []), ([], []), ([], []), ([], []), ([], [])]) hm (kD 1 ?_)
     obtain ⟨hm, h47⟩ := asrt h46
     refine kQ 155 (.int .u8 (((k1_.getD ((IntKind.wrap .u32 ((Int.tmod s2.2.1 100) * 2)) : Int).toNat 0).toNat : Nat) : Int)) [] (tr2 := [([], []), ([], []), ([], []), ([], []), ([], []), ([], []), ([], []), ([], []), ([], []), ([], []), ([], [])]) hm ?_
     obtain ⟨hm, h48⟩ := asrt h47
     refine kQ 156 (.ptr 0 (0 + ((IntKind.wrap .i64 (s2.1 - 1)) : Int).toNat * 1)) [] (tr2 := [([], []), ([], []), ([], []), ([], []), ([], []), ([], []), ([], []), ([], []), ([], []), ([], []), ([], []), ([], [])]) hm ?_
     obtain ⟨hm, h49⟩ := asrt h48
     refine kSB 0 [([], []), ([], []), ([], []), ([], []), ([], []), ([], []), ([], []), ([], []), ([], []), ([], []), ([], []), ([], []), ([0, 1], [0])] (encI_len .u8) ((((k1_.getD ((IntKind.wrap .u32 (((IntKind.wrap .u32 ((Int.tmod s2.2.1 100) * 2))) + 1)) : Int).toNat 0).toNat : Nat) : Int)) hm ?_
     obtain ⟨hm, h50⟩ := asrt h49
     refine kQ 157 (.ptr 0 (0 + ((IntKind.wrap .i64 (s2.1 - 2)) : Int).toNat * 1)) [] (tr2 := [([], []), ([], []), ([], []), ([], []), ([], []), ([], []), ([], []), ([], []), ([], []), ([], []), ([], []), ([], []), ([0, 1], [0]), ([], [])]) hm ?_
     obtain ⟨hm, h51⟩ := asrt h50
     exact kSB 0 [([], []), ([], []), ([], []), ([], []), ([], []), ([], []), ([], []), ([], []), ([], []), ([], []), ([], []), ([], []), ([0, 1], [0]), ([], []), ([0, 1], [0])] (encI_len .u8) ((((k1_.getD ((IntKind.wrap .u32 ((Int.tmod s2.2.1 100) * 2)) : Int).toNat 0).toNat : Nat) : Int)) hm (kEN (kM (kNo h51 [0, 4, 12])))
    ·exact kK (kNo h45 [0, 4, 12])
   ·refine kq (kBT 161 h43 (fun h52 => ?_) (fun h53 => ?_))
    ·refine km 4 ?_
     obtain ⟨hm, h54⟩ := asrt h52
     refine kQ 166 (.ptr 0 (0 + (0 : Int).toNat * 1)) [] (tr2 := []) hm ?_
     obtain ⟨hm, h55⟩ := asrt h54
     exact kSB 0 [] (encI_len .u8) ((IntKind.wrap .u8 (IntKind.wrap .u32 (48 + s3.2.1)))) hm (kE (by obtain rfl := oi h55; exact K.retV (H0 := [.box (x2.flatMap (encI .u8))]) [0] (.inl rfl) hFn hFH hFD (by kernel_rfl) (v1 := .tup []) (by kernel_rfl) (by kernel_rfl) (by simp only [List.map_cons, List.map_nil, rn_lbox (enc := (encI .u8)) (fun _ _ => rfl)]; kernel_rfl) (by decide) (by simp only [List.all_cons, List.all_nil, refs_lbox (enc := (encI .u8)) (fun _ _ => rfl)]; kernel_rfl) (by kernel_rfl) (by kernel_rfl) (by kernel_rfl) (by kernel_rfl)))
    ·exact kK (by obtain rfl := oi h53; exact K.retV (H0 := [.box (x2.flatMap (encI .u8))]) [0] (.inl rfl) hFn hFH hFD (by kernel_rfl) (v1 := .tup []) (by kernel_rfl) (by kernel_rfl) (by simp only [List.map_cons, List.map_nil, rn_lbox (enc := (encI .u8)) (fun _ _ => rfl)]; kernel_rfl) (by decide) (by simp only [List.all_cons, List.all_nil, refs_lbox (enc := (encI .u8)) (fun _ _ => rfl)]; kernel_rfl) (by kernel_rfl) (by kernel_rfl) (by kernel_rfl) (by kernel_rfl))
def strconv_AppendUint (x0 : List Int) (x1 x2 : Int) : Option (List Int) :=
 (bif (decide (x2 = 10)) then (bif (decide (x1 < 100)) then (Option.bind (strconv_small (IntKind.wrap .i64 x1)) fun y2 => (bif room (x0.length + y2.length) then (some (x0 ++ (bytesI y2))) else none)) else (Option.bind (strconv_numDigits x1) fun y0 => (bif inS 0 y0 24 then (Option.bind (strconv_formatBase10_s0 (y0 : Int) x1 (rep 24 (0 : Int))) fun y1 => (bif inS 0 y0 24 then (bif (inS ((0 : Nat) : Int) (((0 : Nat) : Int) + (y0 : Int)) y1.length && roomB (x0.length + (y0 : Int).toNat)) then (some (x0 ++ (cut y1 ((0 : Nat) : Int) (((0 : Nat) : Int) + (y0 : Int))))) else none) else none)) else none))) else none)
theorem strconv_AppendUint_ok_0o {x0 : List Int} {x1 x2 : Int} {r : List Int} (h : strconv_AppendUint x0 x1 x2 = some r) : SC Tryz.prog 213 [.vc 0, .int .u64 x1, iL x2] [vecL (encI .u8) 1 5 x0] (.vc 1) [.gone, vecL (encI .u8) 1 5 r] := by
 refine kFn (fn := Tryz.f213) (fun F hFn hFH hFD => ?_)
 unfold strconv_AppendUint at h
 refine kq (kS (kq (kBT 10 h (fun h0 => ?_) (fun h1 => ?_))))
 ·refine kS (kq (kBT 12 h0 (fun h2 => ?_) (fun h3 => ?_)))
  ·refine kn 3 (kAb 16 h2 (fun _ => strconv_small_ok) (fun y2 h4 => ?_))
   obtain ⟨hm, h5⟩ := asrt h4
   exact RJ.rel (d := (some 17)) (ef := ⟨.vc 1, [0], [(0, .gone), (1, .vec (x0.length + y2.length) 1 5 (x0.flatMap (encI .u8) ++ y2.map byteSV))]⟩) (ef' := ⟨.vc 1, [0], [(0, .gone), (1, vecL (encI .u8) 1 5 (x0 ++ (bytesI y2)))]⟩) (c := roomB (x0.length + y2.length)) (tr2 := []) (H2 := [.gone, vecL (encI .u8) 1 5 (x0 ++ (bytesI y2))]) (by kernel_rfl) (roomB_of_room hm) (fun hc => (by rw [bytes_eq, ← bytesI_len y2]; exact N.app)) (by kernel_rfl) (kr 1 (kX (PJ.passRet (PJ.passRet (by obtain rfl := oi h5; exact kRV [0, 1] (.inr rfl) hFn hFH hFD)))))
  ·refine kKN (kq (kn 1 (kAb 19 h3 (fun _ => strconv_numDigits_ok) (fun y0 h6 => kr 1 (kn 1 ?_)))))
   obtain ⟨hm, h7⟩ := asrt h6
   refine RJ.relS (d := (some 21)) (ef' := ⟨.sl 1 0 (y0 : Int).toNat 1, [], []⟩) (tr2 := []) (H2 := [vecL (encI .u8) 1 5 x0, .box ((rep 24 (0 : Int)).flatMap (encI .u8))]) (by kernel_rfl) hm (fun hc => rfl) (by kernel_rfl) (kc 1 ?_)
   obtain ⟨y1, hy0, h8⟩ := bindS h7
   refine RJ.callG (d := (some 23)) (f := 218) (args := [.sl 1 0 (y0 : Int).toNat 1, .int .u64 x1]) (args0 := [.sl 0 0 (y0 : Int).toNat 1, .int .u64 x1]) (v0 := .tup []) (v := .tup []) (tr2 := []) (H0 := [.box ((rep 24 (0 : Int)).flatMap (encI .u8))]) (H0' := [.box (y1.flatMap (encI .u8))]) (H2 := [vecL (encI .u8) 1 5 x0, .box (y1.flatMap (encI .u8))]) [1] (by kernel_rfl) (by kernel_rfl) (by kernel_rfl) (by simp only [List.map_cons, List.map_nil, rn_lbox (enc := (encI .u8)) (fun _ _ => rfl)]; kernel_rfl) (by decide) (by simp only [List.all_cons, List.all_nil, refs_lbox (enc := (encI .u8)) (fun _ _ => rfl)]; kernel_rfl) (by kernel_rfl) (by kernel_rfl) (.cons (Le.refl _) (.cons (Le.refl _) .nil)) (strconv_formatBase10_s0_ok hy0) (by kernel_rfl) (by kernel_rfl) ((show frameH (selF [1]) 1 _ [.box (y1.flatMap (encI .u8))] = [vecL (encI .u8) 1 5 x0, Ent.rn (gOf (selF [1]) 1 2) (.box (y1.flatMap (encI .u8)))] by kernel_rfl).trans (by simp only [rn_lbox (enc := (encI .u8)) (fun _ _ => rfl)])) (kEN (kSR (RJ.seg 2 [0, 1, 2, 6, 7, 24, 25] (L2 := [(0, .vc 0), (1, .int .u64 x1), (2, iL x2), (6, .nl), (7, .ptr 1 0), (24, .vc 0), (25, iL y0)]) (H2 := [vecL (encI .u8) 1 5 x0, .box (y1.flatMap (encI .u8))]) (by kernel_rfl) ?_)))
   obtain ⟨hm, h9⟩ := asrt h8
   refine RJ.relS (d := (some 26)) (ef' := ⟨.sl 1 0 (y0 : Int).toNat 1, [], []⟩) (tr2 := []) (H2 := [vecL (encI .u8) 1 5 x0, .box (y1.flatMap (encI .u8))]) (by kernel_rfl) hm (fun hc => rfl) (by kernel_rfl) ?_
   obtain ⟨hm, h10⟩ := asrt h9
   exact RJ.relS (d := (some 27)) (ef := ⟨.vc 2, [0, 1], [(0, .gone), (2, .vec (x0.length + (y0 : Int).toNat) 1 5 (x0.flatMap (encI .u8) ++ ((y1.flatMap (encI .u8)).drop (0 * 1)).take ((y0 : Int).toNat * 1)))]⟩) (ef' := ⟨.vc 2, [0, 1], [(0, .gone), (2, vecL (encI .u8) 1 5 (x0 ++ (cut y1 ((0 : Nat) : Int) (((0 : Nat) : Int) + (y0 : Int)))))]⟩) (c := (Nat.ble (0 * 1 + (y0 : Int).toNat * 1) (y1.flatMap (encI .u8)).length && (plainL (((y1.flatMap (encI .u8)).drop (0 * 1)).take ((y0 : Int).toNat * 1)) && roomB (x0.length + (y0 : Int).toNat)))) (tr2 := []) (H2 := [.gone, .box (y1.flatMap (encI .u8)), vecL (encI .u8) 1 5 ((x0 ++ (cut y1 ((0 : Nat) : Int) (((0 : Nat) : Int) + (y0 : Int)))))]) (by kernel_rfl) (appB_ok (o := 0) (encI_len .u8) (fun _ => rfl) (Bool.and_eq_true_iff.1 hm).1 (Bool.and_eq_true_iff.1 hm).2) (fun hc => N.appB (o := 0) (encI_len .u8) (Bool.and_eq_true_iff.1 hm).1) (by kernel_rfl) (kr 1 (kX (PJ.passRet (by obtain rfl := oi h10; exact kRV [0, 2] (.inr rfl) hFn hFH hFD))))
 ·refine kKN (kn 3 ?_)
  cases h1
def strconv_AppendInt_208 (x0 : List Int) (x1 x2 : Int) : Option (List Int) :=
 (Option.bind (bif (decide (x1 < 0)) then (bif room (x0.length + ([45] : List Int).length) then (some ((IntKind.wrap .u64 (0 - (IntKind.wrap .u64 x1))), (x0 ++ ([45] : List Int)))) else none) else (some ((IntKind.wrap .u64 x1), x0))) fun (s0 : Int × (List Int)) => (Option.bind (strconv_AppendUint s0.2 s0.1 x2) fun y0 => (some y0)))
theorem strconv_AppendInt_208_ok_0o {x0 : List Int} {x1 x2 : Int} {r : List Int} (h : strconv_AppendInt_208 x0 x1 x2 = some r) : SC Tryz.prog 208 [.vc 0, iL x1, iL x2] [vecL (encI .u8) 1 5 x0] (.vc 1) [.gone, vecL (encI .u8) 1 5 r] := by
 refine kFn (fn := Tryz.f208) (fun F hFn hFH hFD => ?_)
 unfold strconv_AppendInt_208 at h
 refine J.wk (Wk.move 0 (n := x0.length) (k := 1) (e := 5) (cs := x0.flatMap (encI .u8)) (by kernel_rfl)) (kq (kq (kcN h (fun (s0 : Int × (List Int)) => ([(0, .vc 1), (2, iL x2), (6, .nl), (7, .int .u64 s0.1)], [.gone, vecL (encI .u8) 1 5 s0.2])) (fun s0 hy0 => ?_) (fun s0 h0 => ?_))))
 ·refine kq (kBT 11 hy0 (fun h1 => ?_) (fun h2 => ?_))
  ·refine kn 2 ?_
   obtain ⟨hm, h3⟩ := asrt h1
   exact RJ.rel (d := (some 14)) (ef := ⟨.vc 3, [1, 2], [(1, .gone), (3, .vec (x0.length + ([45] : List Int).length) 1 5 (x0.flatMap (encI .u8) ++ ([45] : List Int).flatMap (encI .u8)))]⟩) (ef' := ⟨.vc 3, [1, 2], [(1, .gone), (3, vecL (encI .u8) 1 5 (x0 ++ ([45] : List Int)))]⟩) (c := roomB (x0.length + ([45] : List Int).length)) (tr2 := []) (H2 := [.gone, .gone, vecL (encI .u8) 1 5 ([45] : List Int), vecL (encI .u8) 1 5 (x0 ++ ([45] : List Int))]) (by kernel_rfl) (roomB_of_room hm) (fun hc => N.app) (by kernel_rfl) (kr 1 (kM (kNW h3 hFH hFD [0, 3])))
  ·exact kK (kNo h2 [0, 2, 6, 7])
 ·refine kn 3 ?_
  obtain ⟨y0, hy1, h4⟩ := bindS h0
  exact kCg (some 20) [1] (strconv_AppendUint_ok_0o hy1) (kr 1 (kX (by obtain rfl := oi h4; exact kRV [0, 2] (.inr rfl) hFn hFH hFD)))
def strconv_AppendInt (x0 : List Int) (x1 x2 : Int) : Option (List Int) :=
 (Option.bind (strconv_AppendInt_208 x0 x1 x2) fun y0 => (some y0))
theorem strconv_AppendInt_ok_0o {x0 : List Int} {x1 x2 : Int} {r : List Int} (h : strconv_AppendInt x0 x1 x2 = some r) : SC Tryz.prog 198 [.vc 0, iL x1, iL x2] [vecL (encI .u8) 1 5 x0] (.vc 1) [.gone, vecL (encI .u8) 1 5 r] := by
 refine kFn (fn := Tryz.f198) (fun F hFn hFH hFD => ?_)
 unfold strconv_AppendInt at h
 refine kq (kn 3 ?_)
 obtain ⟨y0, hy0, h0⟩ := bindS h
 exact kCg (some 10) [0] (strconv_AppendInt_208_ok_0o hy0) (kr 1 (kX (by obtain rfl := oi h0; exact kRV [0, 1] (.inr rfl) hFn hFH hFD)))
def rule_relation (x0 : List Int) (x1 : St150) : Option (List Int) :=
 (bif room (x0.length + ([x1.Op_] : List Int).length) then (Option.bind (bif (decide (¬ x1.Mod_ = 0)) then (bif room ((x0 ++ ([x1.Op_] : List Int)).length + ([32, 37, 32] : List UInt8).length) then (Option.bind (strconv_AppendInt (((x0 ++ ([x1.Op_] : List Int)) ++ (bytesI ([32, 37, 32] : List UInt8)))) x1.Mod_ 10) fun y1 => (some y1)) else none) else (some (x0 ++ ([x1.Op_] : List Int)))) fun (s1 : (List Int)) => (Option.bind (bif x1.Not_ then (bif room (s1.length + ([32, 33, 61, 32] : List UInt8).length) then (some ((s1 ++ (bytesI ([32, 33, 61, 32] : List UInt8))))) else none) else (bif room (s1.length + ([32, 61, 32] : List UInt8).length) then (some ((s1 ++ (bytesI ([32, 61, 32] : List UInt8))))) else none)) fun (s2 : (List Int)) => (Option.bind (loopN (fun (s0 : Int × (List Int)) => (bif (decide (s0.1 < (x1.R_.length : Int))) then (Option.bind (bif inR s0.1 x1.R_.length then (Option.bind (bif (decide (s0.1 > 0)) then (bif room (s0.2.length + ([44] : List Int).length) then (some (s0.2 ++ ([44] : List Int))) else none) else (some s0.2)) fun (s3 : (List Int)) => (Option.bind (strconv_AppendInt s3 ((nth x1.R_ s0.1).a0_) 10) fun y0 => (bif (decide (¬ ((nth x1.R_ s0.1).a0_) = ((nth x1.R_ s0.1).a1_))) then (bif room (y0.length + ([46, 46] : List UInt8).length) then (Option.bind (strconv_AppendInt ((y0 ++ (bytesI ([46, 46] : List UInt8)))) ((nth x1.R_ s0.1).a1_) 10) fun y2 => (some y2)) else none) else (some y0)))) else none) fun (s4 : (List Int)) => (some (.inl ((IntKind.wrap .i64 (s0.1 + 1)), s4)))) else (some (.inr s0.2)))) big (0, s2)) fun (s5 : (List Int)) => (some s5)))) else none)
theorem rule_relation_ok_0o {x0 : List Int} {x1 : St150} {r : List Int} (h : rule_relation x0 x1 = some r) : SC Tryz.prog 176 [.vc 0, .agg (encSt150 x1)] [vecL (encI .u8) 1 5 x0] (.vc 1) [.gone, vecL (encI .u8) 1 5 r] := by
 refine kFn (fn := Tryz.f176) (fun F hFn hFH hFD => ?_)
 unfold rule_relation at h
 refine kq (kn 4 ?_)
 obtain ⟨hm, h0⟩ := asrt h
 refine RJ.rel (d := (some 11)) (ef := ⟨.vc 3, [0, 2], [(0, .gone), (3, .vec (x0.length + ([x1.Op_] : List Int).length) 1 5 (x0.flatMap (encI .u8) ++ ([x1.Op_] : List Int).flatMap (encI .u8)))]⟩) (ef' := ⟨.vc 3, [0, 2], [(0, .gone), (3, vecL (encI .u8) 1 5 (x0 ++ ([x1.Op_] : List Int)))]⟩) (c := roomB (x0.length + ([x1.Op_] : List Int).length)) (tr2 := []) (H2 := [.gone, .box (encSt150 x1), vecL (encI .u8) 1 5 ([x1.Op_] : List Int), vecL (encI .u8) 1 5 (x0 ++ ([x1.Op_] : List Int))]) (by kernel_rfl) (roomB_of_room hm) (fun hc => N.app) (by kernel_rfl) (kr 1 (kcN h0 (fun (s1 : (List Int)) => ([(0, .vc 1), (3, .ptr 2 0), (4, .nl)], [.gone, vecL (encI .u8) 1 5 s1, .box (encSt150 x1)])) (fun s1 hy0 => ?_) (fun s1 h1 => ?_)))
 ·refine kq (kBT 14 hy0 (fun h2 => ?_) (fun h3 => ?_))
  ·refine kn 1 ?_
   obtain ⟨hm, h4⟩ := asrt h2
   refine RJ.rel (d := (some 16)) (ef := ⟨.vc 4, [3], [(3, .gone), (4, .vec ((x0 ++ ([x1.Op_] : List Int)).length + ([32, 37, 32] : List UInt8).length) 1 5 ((x0 ++ ([x1.Op_] : List Int)).flatMap (encI .u8) ++ ([32, 37, 32] : List UInt8).map byteSV))]⟩) (ef' := ⟨.vc 4, [3], [(3, .gone), (4, vecL (encI .u8) 1 5 ((x0 ++ ([x1.Op_] : List Int)) ++ (bytesI ([32, 37, 32] : List UInt8))))]⟩) (c := roomB ((x0 ++ ([x1.Op_] : List Int)).length + ([32, 37, 32] : List UInt8).length)) (tr2 := []) (H2 := [.gone, .box (encSt150 x1), vecL (encI .u8) 1 5 ([x1.Op_] : List Int), .gone, vecL (encI .u8) 1 5 (((x0 ++ ([x1.Op_] : List Int)) ++ (bytesI ([32, 37, 32] : List UInt8))))]) (by kernel_rfl) (roomB_of_room hm) (fun hc => (by rw [bytes_eq, ← bytesI_len ([32, 37, 32] : List UInt8)]; exact N.app)) (by kernel_rfl) (kr 1 (km 3 ?_))
   obtain ⟨y1, hy1, h5⟩ := bindS h4
   exact kCg (some 20) [4] (strconv_AppendInt_ok_0o hy1) (ke 1 (kNW h5 hFH hFD [0, 5, 1]))
  ·exact kK (kNW h3 hFH hFD [0, 3, 1])
 ·refine kcN h1 (fun (s2 : (List Int)) => ([(0, .vc 1), (3, .ptr 2 0), (4, .nl)], [.gone, vecL (encI .u8) 1 5 s2, .box (encSt150 x1)])) (fun s2 hy2 => ?_) (fun s2 h6 => ?_)
  ·refine kq (kBT 22 hy2 (fun h7 => ?_) (fun h8 => ?_))
   ·refine km 1 ?_
    obtain ⟨hm, h9⟩ := asrt h7
    exact RJ.rel (d := (some 24)) (ef := ⟨.vc 3, [1], [(1, .gone), (3, .vec (s1.length + ([32, 33, 61, 32] : List UInt8).length) 1 5 (s1.flatMap (encI .u8) ++ ([32, 33, 61, 32] : List UInt8).map byteSV))]⟩) (ef' := ⟨.vc 3, [1], [(1, .gone), (3, vecL (encI .u8) 1 5 (s1 ++ (bytesI ([32, 33, 61, 32] : List UInt8))))]⟩) (c := roomB (s1.length + ([32, 33, 61, 32] : List UInt8).length)) (tr2 := []) (H2 := [.gone, .gone, .box (encSt150 x1), vecL (encI .u8) 1 5 ((s1 ++ (bytesI ([32, 33, 61, 32] : List UInt8))))]) (by kernel_rfl) (roomB_of_room hm) (fun hc => (by rw [bytes_eq, ← bytesI_len ([32, 33, 61, 32] : List UInt8)]; exact N.app)) (by kernel_rfl) (ke 1 (kNW h9 hFH hFD [0, 3, 2]))
   ·refine km 1 ?_
    obtain ⟨hm, h10⟩ := asrt h8
    exact RJ.rel (d := (some 26)) (ef := ⟨.vc 3, [1], [(1, .gone), (3, .vec (s1.length + ([32, 61, 32] : List UInt8).length) 1 5 (s1.flatMap (encI .u8) ++ ([32, 61, 32] : List UInt8).map byteSV))]⟩) (ef' := ⟨.vc 3, [1], [(1, .gone), (3, vecL (encI .u8) 1 5 (s1 ++ (bytesI ([32, 61, 32] : List UInt8))))]⟩) (c := roomB (s1.length + ([32, 61, 32] : List UInt8).length)) (tr2 := []) (H2 := [.gone, .gone, .box (encSt150 x1), vecL (encI .u8) 1 5 ((s1 ++ (bytesI ([32, 61, 32] : List UInt8))))]) (by kernel_rfl) (roomB_of_room hm) (fun hc => (by rw [bytes_eq, ← bytesI_len ([32, 61, 32] : List UInt8)]; exact N.app)) (by kernel_rfl) (ke 1 (kNW h10 hFH hFD [0, 3, 2]))
  ·refine kcN h6 (fun (s5 : (List Int)) => ([(0, .vc 1), (4, .nl)], [.gone, vecL (encI .u8) 1 5 s5])) (fun s5 hy3 => ?_) (fun s5 h11 => ?_)
   ·refine kq (kb 0 (J.wk (Wk.sel (L2 := [(0, .vc 1), (4, .nl), (28, lsv encSt185 2 x1.R_), (29, iL (x1.R_.length : Int)), (30, iL 0)]) (H2 := [.gone, vecL (encI .u8) 1 5 s2]) 1 (by rw [hFH]; rfl) hFD [0, 1] (by kernel_rfl) (by kernel_rfl) (by decide) (by kernel_rfl) (by kernel_rfl) (by kernel_rfl) (by kernel_rfl)) (kl (fun (s0 : Int × (List Int)) => ([(0, .vc 1), (4, .nl), (28, lsv encSt185 2 x1.R_), (29, iL (x1.R_.length : Int)), (30, iL s0.1)], [.gone, vecL (encI .u8) 1 5 s0.2])) hy3 [0, 4, 28, 29, 30] (fun s0 x336 hs0 => kq (kS (kBT 31 hs0 (fun h12 => ?_) (fun h13 => ?_)))))))
    ·refine kKN (kcN h12 (fun (s4 : (List Int)) => ([(0, .vc 1), (4, .nl), (28, lsv encSt185 2 x1.R_), (29, iL (x1.R_.length : Int)), (30, iL s0.1)], [.gone, vecL (encI .u8) 1 5 s4])) (fun s4 hy4 => ?_) (fun s4 h14 => ?_))
     ·refine kb 1 (kn 1 (kIb 33 encSt185_len hy4 (fun h15 => kr 4 (kcN h15 (fun (s3 : (List Int)) => ([(0, .vc 1), (4, .nl), (6, .ptr 2 0), (28, lsv encSt185 2 x1.R_), (29, iL (x1.R_.length : Int)), (30, iL s0.1)], [.gone, vecL (encI .u8) 1 5 s3, .box [iL ((nth x1.R_ s0.1).a0_), iL ((nth x1.R_ s0.1).a1_)]])) (fun s3 hy5 => ?_) (fun s3 h16 => ?_)))))
      ·refine kq (kBT 36 hy5 (fun h17 => ?_) (fun h18 => ?_))
       ·refine km 2 ?_
        obtain ⟨hm, h19⟩ := asrt h17
        exact RJ.rel (d := (some 39)) (ef := ⟨.vc 4, [1, 3], [(1, .gone), (4, .vec (s0.2.length + ([44] : List Int).length) 1 5 (s0.2.flatMap (encI .u8) ++ ([44] : List Int).flatMap (encI .u8)))]⟩) (ef' := ⟨.vc 4, [1, 3], [(1, .gone), (4, vecL (encI .u8) 1 5 (s0.2 ++ ([44] : List Int)))]⟩) (c := roomB (s0.2.length + ([44] : List Int).length)) (tr2 := []) (H2 := [.gone, .gone, .box [iL ((nth x1.R_ s0.1).a0_), iL ((nth x1.R_ s0.1).a1_)], vecL (encI .u8) 1 5 ([44] : List Int), vecL (encI .u8) 1 5 (s0.2 ++ ([44] : List Int))]) (by kernel_rfl) (roomB_of_room hm) (fun hc => N.app) (by kernel_rfl) (ke 1 (kNW h19 hFH hFD [0, 4, 2]))
       ·exact kK (kNo h18 [0, 4, 6, 28, 29, 30])
      ·refine kn 3 ?_
       obtain ⟨y0, hy6, h20⟩ := bindS h16
       refine kCg (some 43) [1] (strconv_AppendInt_ok_0o hy6) (kr 1 (kq (kBT 48 h20 (fun h21 => ?_) (fun h22 => ?_))))
       ·refine kn 1 ?_
        obtain ⟨hm, h23⟩ := asrt h21
        refine RJ.rel (d := (some 50)) (ef := ⟨.vc 4, [3], [(3, .gone), (4, .vec (y0.length + ([46, 46] : List UInt8).length) 1 5 (y0.flatMap (encI .u8) ++ ([46, 46] : List UInt8).map byteSV))]⟩) (ef' := ⟨.vc 4, [3], [(3, .gone), (4, vecL (encI .u8) 1 5 (y0 ++ (bytesI ([46, 46] : List UInt8))))]⟩) (c := roomB (y0.length + ([46, 46] : List UInt8).length)) (tr2 := []) (H2 := [.gone, .gone, .box [iL ((nth x1.R_ s0.1).a0_), iL ((nth x1.R_ s0.1).a1_)], .gone, vecL (encI .u8) 1 5 ((y0 ++ (bytesI ([46, 46] : List UInt8))))]) (by kernel_rfl) (roomB_of_room hm) (fun hc => (by rw [bytes_eq, ← bytesI_len ([46, 46] : List UInt8)]; exact N.app)) (by kernel_rfl) (kr 1 (km 3 ?_))
        obtain ⟨y2, hy7, h24⟩ := bindS h23
        exact kCg (some 54) [4] (strconv_AppendInt_ok_0o hy7) (ke 1 (PJ.blockNormal (kNW h24 hFH hFD [0, 5])))
       ·exact kKb (kNW h22 hFH hFD [0, 3])
     ·exact kM (kLo h14 [0, 4, 28, 29, 30])
    ·exact kEp 0 (kLx h13 (fun h25 => PJ.blockOut (kNo h25 [0, 4])))
   ·exact kq (kX (by obtain rfl := oi h11; exact kRV [0, 1] (.inr rfl) hFn hFH hFD))
end Go.Proofs.YtcapcgbamehojaaGreatDoor
