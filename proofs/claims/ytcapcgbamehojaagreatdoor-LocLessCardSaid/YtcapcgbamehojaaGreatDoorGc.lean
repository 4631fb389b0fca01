/-
  What the functions of this program come to, as functions of natives, each with the proof that it does. No conditions.
-/
import Derived.Test.YtcapcgbamehojaaGreatDoorProg
import Derived.Test.YtcapcgbamehojaaGreatDoorSySL
import Derived.Test.YtcapcgbamehojaaGreatDoorGb
namespace Go.Proofs.YtcapcgbamehojaaGreatDoor
open Go Go.Sy Go.RowKit
set_option linter.unusedVariables false
set_option linter.unusedSimpArgs false
set_option maxRecDepth 100000
set_option maxHeartbeats 4000000
def rule_Text (x0 : List (List St150)) : Option (List UInt8) :=
 (Option.bind (loopN (fun (s1 : Int × (List Int)) => (bif (decide (s1.1 < (x0.length : Int))) then (Option.bind (bif inR s1.1 x0.length then (loopN (fun (s0 : Int × (List Int)) => (bif (decide (s0.1 < ((nth x0 s1.1).length : Int))) then (Option.bind (bif inR s0.1 (nth x0 s1.1).length then (Option.bind (bif (decide ((s0.2.length : Int) = 0)) then (some s0.2) else (bif (decide (s0.1 = 0)) then (bif room (s0.2.length + ([32, 111, 114, 32] : List UInt8).length) then (some ((s0.2 ++ (bytesI ([32, 111, 114, 32] : List UInt8))))) else none) else (bif room (s0.2.length + ([32, 97, 110, 100, 32] : List UInt8).length) then (some ((s0.2 ++ (bytesI ([32, 97, 110, 100, 32] : List UInt8))))) else none))) fun (s3 : (List Int)) => (Option.bind (rule_relation s3 (nth (nth x0 s1.1) s0.1)) fun y0 => (some y0))) else none) fun (s4 : (List Int)) => (some (.inl ((IntKind.wrap .i64 (s0.1 + 1)), s4)))) else (some (.inr s0.2)))) big (0, s1.2)) else none) fun (s5 : (List Int)) => (some (.inl ((IntKind.wrap .i64 (s1.1 + 1)), s5)))) else (some (.inr s1.2)))) big (0, ([] : List Int))) fun (s2 : (List Int)) => (some (bytesS s2)))
theorem rule_Text_ok {x0 : List (List St150)} {r : List UInt8} (h : rule_Text x0 = some r) : SC Tryz.prog 156 [lsv (encL encSt150 4) 1 x0] [] (.str r) [] := by
 refine kFn (fn := Tryz.f156) (fun F hFn hFH hFD => ?_)
 unfold rule_Text at h
 refine kq (kq (kcN h (fun (s2 : (List Int)) => ([(2, .str ([] : List UInt8)), (3, .vc 0)], [vecL (encI .u8) 1 5 s2])) (fun s2 hy0 => ?_) (fun s2 h0 => ?_)))
 ·refine kq (kb 0 (J.wk (Wk.viv 3 1 5 (by kernel_rfl)) (kl (fun (s1 : Int × (List Int)) => ([(2, .str ([] : List UInt8)), (3, .vc 0), (8, lsv (encL encSt150 4) 1 x0), (9, iL (x0.length : Int)), (10, iL s1.1)], [vecL (encI .u8) 1 5 s1.2])) hy0 [2, 3, 8, 9, 10] (fun s1 x1901 hs0 => kq (kS (kBT 11 hs0 (fun h1 => ?_) (fun h2 => ?_)))))))
  ·refine kKN (kcN h1 (fun (s5 : (List Int)) => ([(2, .str ([] : List UInt8)), (3, .vc 0), (8, lsv (encL encSt150 4) 1 x0), (9, iL (x0.length : Int)), (10, iL s1.1)], [vecL (encI .u8) 1 5 s5])) (fun s5 hy1 => ?_) (fun s5 h3 => ?_))
   ·refine kb 1 (kSR (kIb 12 (encL_len encSt150 4) hy1 (fun h4 => kr 2 (kq (kb 2 (kl (fun (s0 : Int × (List Int)) => ([(2, .str ([] : List UInt8)), (3, .vc 0), (8, lsv (encL encSt150 4) 1 x0), (9, iL (x0.length : Int)), (10, iL s1.1), (14, lsv encSt150 4 (nth x0 s1.1)), (15, iL ((nth x0 s1.1).length : Int)), (16, iL s0.1)], [vecL (encI .u8) 1 5 s0.2])) h4 [2, 3, 8, 9, 10, 14, 15, 16] (fun s0 x2217 hs1 => kq (kS (kBT 17 hs1 (fun h5 => ?_) (fun h6 => ?_))))))))))
    ·refine kKN (kcN h5 (fun (s4 : (List Int)) => ([(2, .str ([] : List UInt8)), (3, .vc 0), (8, lsv (encL encSt150 4) 1 x0), (9, iL (x0.length : Int)), (10, iL s1.1), (14, lsv encSt150 4 (nth x0 s1.1)), (15, iL ((nth x0 s1.1).length : Int)), (16, iL s0.1)], [vecL (encI .u8) 1 5 s4])) (fun s4 hy2 => ?_) (fun s4 h7 => ?_))
     ·refine kb 3 (kn 1 (kIb 19 encSt150_len hy2 (fun h8 => kr 4 (kcN h8 (fun (s3 : (List Int)) => ([(2, .str ([] : List UInt8)), (3, .vc 0), (7, .ptr 1 0), (8, lsv (encL encSt150 4) 1 x0), (9, iL (x0.length : Int)), (10, iL s1.1), (14, lsv encSt150 4 (nth x0 s1.1)), (15, iL ((nth x0 s1.1).length : Int)), (16, iL s0.1)], [vecL (encI .u8) 1 5 s3, .box [.int .u8 ((nth (nth x0 s1.1) s0.1).Op_), iL ((nth (nth x0 s1.1) s0.1).Mod_), .bool ((nth (nth x0 s1.1) s0.1).Not_), lsv encSt185 2 ((nth (nth x0 s1.1) s0.1).R_)]])) (fun s3 hy3 => ?_) (fun s3 h9 => ?_)))))
      ·refine kb 4 (kq (kBT 23 hy3 (fun h10 => ?_) (fun h11 => ?_)))
       ·exact kK (PJ.blockNormal (kNo h10 [2, 3, 7, 8, 9, 10, 14, 15, 16]))
       ·refine kq (kBT 27 h11 (fun h12 => ?_) (fun h13 => ?_))
        ·refine km 1 ?_
         obtain ⟨hm, h14⟩ := asrt h12
         exact RJ.rel (d := (some 31)) (ef := ⟨.vc 2, [0], [(0, .gone), (2, .vec (s0.2.length + ([32, 111, 114, 32] : List UInt8).length) 1 5 (s0.2.flatMap (encI .u8) ++ ([32, 111, 114, 32] : List UInt8).map byteSV))]⟩) (ef' := ⟨.vc 2, [0], [(0, .gone), (2, vecL (encI .u8) 1 5 (s0.2 ++ (bytesI ([32, 111, 114, 32] : List UInt8))))]⟩) (c := roomB (s0.2.length + ([32, 111, 114, 32] : List UInt8).length)) (tr2 := []) (H2 := [.gone, .box [.int .u8 ((nth (nth x0 s1.1) s0.1).Op_), iL ((nth (nth x0 s1.1) s0.1).Mod_), .bool ((nth (nth x0 s1.1) s0.1).Not_), lsv encSt185 2 ((nth (nth x0 s1.1) s0.1).R_)], vecL (encI .u8) 1 5 ((s0.2 ++ (bytesI ([32, 111, 114, 32] : List UInt8))))]) (by kernel_rfl) (roomB_of_room hm) (fun hc => (by rw [bytes_eq, ← bytesI_len ([32, 111, 114, 32] : List UInt8)]; exact N.app)) (by kernel_rfl) (ke 1 (PJ.blockNormal (kNW h14 hFH hFD [2, 1])))
        ·refine km 1 ?_
         obtain ⟨hm, h15⟩ := asrt h13
         exact RJ.rel (d := (some 22)) (ef := ⟨.vc 2, [0], [(0, .gone), (2, .vec (s0.2.length + ([32, 97, 110, 100, 32] : List UInt8).length) 1 5 (s0.2.flatMap (encI .u8) ++ ([32, 97, 110, 100, 32] : List UInt8).map byteSV))]⟩) (ef' := ⟨.vc 2, [0], [(0, .gone), (2, vecL (encI .u8) 1 5 (s0.2 ++ (bytesI ([32, 97, 110, 100, 32] : List UInt8))))]⟩) (c := roomB (s0.2.length + ([32, 97, 110, 100, 32] : List UInt8).length)) (tr2 := []) (H2 := [.gone, .box [.int .u8 ((nth (nth x0 s1.1) s0.1).Op_), iL ((nth (nth x0 s1.1) s0.1).Mod_), .bool ((nth (nth x0 s1.1) s0.1).Not_), lsv encSt185 2 ((nth (nth x0 s1.1) s0.1).R_)], vecL (encI .u8) 1 5 ((s0.2 ++ (bytesI ([32, 97, 110, 100, 32] : List UInt8))))]) (by kernel_rfl) (roomB_of_room hm) (fun hc => (by rw [bytes_eq, ← bytesI_len ([32, 97, 110, 100, 32] : List UInt8)]; exact N.app)) (by kernel_rfl) (ke 1 (PJ.blockNormal (kNW h15 hFH hFD [2, 1])))
      ·refine km 2 ?_
       obtain ⟨y0, hy4, h16⟩ := bindS h9
       exact kCg (some 34) [0] (rule_relation_ok_0o hy4) (ke 1 (PJ.blockNormal (kNW h16 hFH hFD [2])))
     ·exact kM (kLo h7 [2, 3, 8, 9, 10, 14, 15, 16])
    ·refine K.exit 2 (by kernel_rfl) (PJ.passExit ?_)
     obtain rfl := oi h6
     refine PJ.loopOut (fun e => nomatch e) (fun he0 => ?_)
     have h17 := congrArg some he0
     exact PJ.blockOut (PJ.blockNormal (kNo h17 [2, 3, 8, 9, 10]))
   ·exact kM (kLo h3 [2, 3, 8, 9, 10])
  ·refine K.exit 0 (by kernel_rfl) (PJ.passExit ?_)
   obtain rfl := oi h2
   refine PJ.loopOut (fun e => nomatch e) (fun he1 => ?_)
   have h18 := congrArg some he1
   exact PJ.blockOut (kNo h18 [2, 3])
 ·refine kn 1 (RJ.rel (d := (some 38)) (ef := ⟨.str ((s2.flatMap (encI .u8)).map Go.Sy.byteOf), [0], []⟩) (ef' := ⟨.str (bytesS s2), [0], []⟩) (c := (s2.flatMap (encI .u8)).all isByte) (tr2 := []) (H2 := [vecL (encI .u8) 1 5 s2]) (by kernel_rfl) (allByte s2) (fun hc => N.toStr) (by kernel_rfl) (kr 1 (kX ?_)))
  obtain rfl := oi h0
  exact kZ hFn hFH hFD
def slices_Equal_199 (x0 x1 : List St185) : Option (Bool) :=
 (bif (decide (¬ (x0.length : Int) = (x1.length : Int))) then (some false) else (Option.bind (loopN (fun (s0 : Int) => (bif (decide (s0 < (x0.length : Int))) then (bif inR s0 x0.length then (bif inR s0 x1.length then (bif (!((decide (((nth x0 s0).a0_) = ((nth x1 s0).a0_))) && ((decide (((nth x0 s0).a1_) = ((nth x1 s0).a1_))) && true))) then (some (.inr (.inr false))) else (some (.inl (IntKind.wrap .i64 (s0 + 1))))) else none) else none) else (some (.inr (.inl ()))))) big 0) (joinX fun (s1 : Unit) => (some true))))
theorem slices_Equal_199_ok {x0 x1 : List St185} {r : Bool} (h : slices_Equal_199 x0 x1 = some r) : SC Tryz.prog 199 [lsv encSt185 2 x0, lsv encSt185 2 x1] [] (.bool r) [] := by
 refine kFn (fn := Tryz.f199) (fun F hFn hFH hFD => ?_)
 unfold slices_Equal_199 at h
 refine kq (kS (kq (kBT 10 h (fun h0 => ?_) (fun h1 => ?_))))
 ·refine kq (kX (PJ.passRet ?_))
  obtain rfl := oi h0
  exact kZ hFn hFH hFD
 ·refine kKN (kcX h1 (fun (s1 : Unit) => ([(4, .bool false)], [])) (fun y0 hy0 h2 => ?_) (fun s1 h3 => ?_))
  ·refine kq (kb 0 (kl (fun (s0 : Int) => ([(0, lsv encSt185 2 x0), (1, lsv encSt185 2 x1), (4, .bool false), (12, iL (x0.length : Int)), (13, iL s0)], [])) hy0 [0, 1, 4, 12, 13] (fun s0 x79 hs0 => kq (kS (kBT 14 hs0 (fun h4 => ?_) (fun h5 => ?_))))))
   ·refine kKN (kS (kb 1 (kq (kS (kDr (kD 2 ?_))))))
    obtain ⟨hm, h6⟩ := asrt h4
    refine kJ 18 (tr2 := [([], []), ([], []), ([], [])]) encSt185_len hm (kD 3 ?_)
    obtain ⟨hm, h7⟩ := asrt h6
    refine kJ 22 (tr2 := [([], []), ([], []), ([], []), ([], []), ([], []), ([], []), ([], [])]) encSt185_len hm (kD 2 (kEN (kBT 24 h7 (fun h8 => ?_) (fun h9 => ?_))))
    ·refine kq (kX (PJ.blockRet (PJ.passRet ?_)))
     obtain rfl := oi h8
     refine PJ.loopOut (fun e => nomatch e) (fun he0 => ?_)
     have h10 := congrArg some he0
     refine PJ.blockRet ?_
     obtain rfl := oi h10
     have h11 := joinX_inr h2
     refine PJ.cutXr (fun e => nomatch e) ?_
     obtain rfl := oi h11
     exact kZ hFn hFH hFD
    ·exact kK (PJ.blockNormal (PJ.next (kM (kLo h9 [0, 1, 4, 12, 13]))))
   ·refine K.exit 0 (by kernel_rfl) (PJ.passExit ?_)
    obtain rfl := oi h5
    refine PJ.loopOut (fun e => nomatch e) (fun he1 => ?_)
    have h12 := congrArg some he1
    exact PJ.blockOut (kXo h12 [4])
  ·refine kq (kX ?_)
   obtain rfl := oi h3
   exact kZ hFn hFH hFD
def rule_sameRel (x0 x1 : St150) : Option (Bool) :=
 (Option.bind (bif (decide (x0.Op_ = x1.Op_)) then (bif (decide (x0.Mod_ = x1.Mod_)) then (bif (x0.Not_ == x1.Not_) then (Option.bind (slices_Equal_199 x0.R_ x1.R_) fun y0 => (some y0)) else (some false)) else (some false)) else (some false)) fun (s0 : Bool) => (some s0))
theorem rule_sameRel_ok {x0 x1 : St150} {r : Bool} (h : rule_sameRel x0 x1 = some r) : SC Tryz.prog 180 [.agg (encSt150 x0), .agg (encSt150 x1)] [] (.bool r) [] := by
 refine kFn (fn := Tryz.f180) (fun F hFn hFH hFD => ?_)
 unfold rule_sameRel at h
 refine kq (kcN h (fun (s0 : Bool) => ([(4, .bool s0)], [])) (fun s0 hy0 => ?_) (fun s0 h0 => ?_))
 ·refine km 6 (kB 10 hy0 (fun h1 => ?_) (fun h2 => ?_))
  ·refine kc 7 (kB 17 h1 (fun h3 => ?_) (fun h4 => ?_))
   ·refine kc 7 (kB 24 h3 (fun h5 => ?_) (fun h6 => ?_))
    ·exact kc 4 (kAb 29 h5 (fun _ => slices_Equal_199_ok) (fun y0 h7 => ke 2 (kNW h7 hFH hFD [])))
    ·exact ke 7 (kNW h6 hFH hFD [])
   ·exact ke 14 (kNW h4 hFH hFD [])
  ·exact ke 21 (kNW h2 hFH hFD [])
 ·refine kX ?_
  obtain rfl := oi h0
  exact kZ hFn hFH hFD
def api_Rel__179_s0 (x0 x1 : List St150) : Option (Bool) :=
 (bif (decide (¬ (x0.length : Int) = (x1.length : Int))) then (some false) else (Option.bind (loopN (fun (s0 : Int) => (bif (decide (s0 < (x0.length : Int))) then (bif inR s0 x0.length then (bif inR s0 x1.length then (Option.bind (rule_sameRel (nth x0 s0) (nth x1 s0)) fun y0 => (bif (!y0) then (some (.inr (.inr false))) else (some (.inl (IntKind.wrap .i64 (s0 + 1)))))) else none) else none) else (some (.inr (.inl ()))))) big 0) (joinX fun (s1 : Unit) => (some true))))
theorem api_Rel__179_s0_ok {x0 x1 : List St150} {r : Bool} (h : api_Rel__179_s0 x0 x1 = some r) : SC Tryz.prog 179 [lsv encSt150 4 x0, lsv encSt150 4 x1, .fn (.func 180) [] []] [] (.bool r) [] := by
 refine kFn (fn := Tryz.f179) (fun F hFn hFH hFD => ?_)
 unfold api_Rel__179_s0 at h
 refine kq (kS (kq (kBT 14 h (fun h0 => ?_) (fun h1 => ?_))))
 ·refine kq (kX (PJ.passRet ?_))
  obtain rfl := oi h0
  exact kRV [] (.inr rfl) hFn hFH hFD
 ·refine kKN (kcX h1 (fun (s1 : Unit) => ([(6, .bool false)], [])) (fun y1 hy0 h2 => ?_) (fun s1 h3 => ?_))
  ·refine kq (kb 0 (kl (fun (s0 : Int) => ([(1, lsv encSt150 4 x1), (2, .fn (.func 180) [] []), (6, .bool false), (15, lsv encSt150 4 x0), (16, iL (x0.length : Int)), (17, iL s0)], [])) hy0 [1, 2, 6, 15, 16, 17] (fun s0 x94 hs0 => kq (kS (kBT 18 hs0 (fun h4 => ?_) (fun h5 => ?_))))))
   ·refine kKN (kS (kb 1 (kn 1 (kIb 20 encSt150_len h4 (fun h6 => kr 4 (kn 2 (kIb 24 encSt150_len h6 (fun h7 => kr 3 (kn 3 (kAb 29 h7 (fun _ => rule_sameRel_ok) (fun y0 h8 => kr 1 (kBT 30 h8 (fun h9 => ?_) (fun h10 => ?_)))))))))))))
    ·refine kq (kX (PJ.blockRet (PJ.passRet ?_)))
     obtain rfl := oi h9
     refine PJ.loopOut (fun e => nomatch e) (fun he0 => ?_)
     have h11 := congrArg some he0
     refine PJ.blockRet ?_
     obtain rfl := oi h11
     have h12 := joinX_inr h2
     refine PJ.cutXr (fun e => nomatch e) ?_
     obtain rfl := oi h12
     exact kRV [] (.inr rfl) hFn hFH hFD
    ·exact kK (PJ.blockNormal (PJ.next (kM (kLW h10 hFH hFD []))))
   ·refine K.exit 0 (by kernel_rfl) (PJ.passExit ?_)
    obtain rfl := oi h5
    refine PJ.loopOut (fun e => nomatch e) (fun he1 => ?_)
    have h13 := congrArg some he1
    exact PJ.blockOut (kXo h13 [6])
  ·refine kq (kX ?_)
   obtain rfl := oi h3
   exact kRV [] (.inr rfl) hFn hFH hFD
def rule_Same_1 (x0 x1 : List St150) : Option (Bool) :=
 (Option.bind (api_Rel__179_s0 x0 x1) fun y0 => (some y0))
theorem rule_Same_1_ok {x0 x1 : List St150} {r : Bool} (h : rule_Same_1 x0 x1 = some r) : SC Tryz.prog 178 [lsv encSt150 4 x0, lsv encSt150 4 x1] [] (.bool r) [] := by
 refine kFn (fn := Tryz.f178) (fun F hFn hFH hFD => ?_)
 unfold rule_Same_1 at h
 refine kq (kn 2 ?_)
 obtain ⟨y0, hy0, h0⟩ := bindS h
 refine kCg (some 7) [] (api_Rel__179_s0_ok hy0) (kr 1 (kX ?_))
 obtain rfl := oi h0
 exact kZ hFn hFH hFD
def api_Rel__s0 (x0 x1 : List (List St150)) : Option (Bool) :=
 (bif (decide (¬ (x0.length : Int) = (x1.length : Int))) then (some false) else (Option.bind (loopN (fun (s0 : Int) => (bif (decide (s0 < (x0.length : Int))) then (bif inR s0 x0.length then (bif inR s0 x1.length then (Option.bind (rule_Same_1 (nth x0 s0) (nth x1 s0)) fun y0 => (bif (!y0) then (some (.inr (.inr false))) else (some (.inl (IntKind.wrap .i64 (s0 + 1)))))) else none) else none) else (some (.inr (.inl ()))))) big 0) (joinX fun (s1 : Unit) => (some true))))
theorem api_Rel__s0_ok {x0 x1 : List (List St150)} {r : Bool} (h : api_Rel__s0 x0 x1 = some r) : SC Tryz.prog 177 [lsv (encL encSt150 4) 1 x0, lsv (encL encSt150 4) 1 x1, .fn (.func 178) [] []] [] (.bool r) [] := by
 refine kFn (fn := Tryz.f177) (fun F hFn hFH hFD => ?_)
 unfold api_Rel__s0 at h
 refine kq (kS (kq (kBT 14 h (fun h0 => ?_) (fun h1 => ?_))))
 ·refine kq (kX (PJ.passRet ?_))
  obtain rfl := oi h0
  exact kRV [] (.inr rfl) hFn hFH hFD
 ·refine kKN (kcX h1 (fun (s1 : Unit) => ([(6, .bool false)], [])) (fun y1 hy0 h2 => ?_) (fun s1 h3 => ?_))
  ·refine kq (kb 0 (kl (fun (s0 : Int) => ([(1, lsv (encL encSt150 4) 1 x1), (2, .fn (.func 178) [] []), (6, .bool false), (15, lsv (encL encSt150 4) 1 x0), (16, iL (x0.length : Int)), (17, iL s0)], [])) hy0 [1, 2, 6, 15, 16, 17] (fun s0 x94 hs0 => kq (kS (kBT 18 hs0 (fun h4 => ?_) (fun h5 => ?_))))))
   ·refine kKN (kS (kb 1 (kn 1 (kIb 20 (encL_len encSt150 4) h4 (fun h6 => kr 3 (kn 2 (kIb 24 (encL_len encSt150 4) h6 (fun h7 => kr 2 (kn 3 (kAb 29 h7 (fun _ => rule_Same_1_ok) (fun y0 h8 => kr 1 (kBT 30 h8 (fun h9 => ?_) (fun h10 => ?_)))))))))))))
    ·refine kq (kX (PJ.blockRet (PJ.passRet ?_)))
     obtain rfl := oi h9
     refine PJ.loopOut (fun e => nomatch e) (fun he0 => ?_)
     have h11 := congrArg some he0
     refine PJ.blockRet ?_
     obtain rfl := oi h11
     have h12 := joinX_inr h2
     refine PJ.cutXr (fun e => nomatch e) ?_
     obtain rfl := oi h12
     exact kRV [] (.inr rfl) hFn hFH hFD
    ·exact kK (PJ.blockNormal (PJ.next (kM (kLo h10 [1, 2, 6, 15, 16, 17]))))
   ·refine K.exit 0 (by kernel_rfl) (PJ.passExit ?_)
    obtain rfl := oi h5
    refine PJ.loopOut (fun e => nomatch e) (fun he1 => ?_)
    have h13 := congrArg some he1
    exact PJ.blockOut (kXo h13 [6])
  ·refine kq (kX ?_)
   obtain rfl := oi h3
   exact kRV [] (.inr rfl) hFn hFH hFD
def rule_Same (x0 x1 : List (List St150)) : Option (Bool) :=
 (Option.bind (api_Rel__s0 x0 x1) fun y0 => (some y0))
theorem rule_Same_ok {x0 x1 : List (List St150)} {r : Bool} (h : rule_Same x0 x1 = some r) : SC Tryz.prog 157 [lsv (encL encSt150 4) 1 x0, lsv (encL encSt150 4) 1 x1] [] (.bool r) [] := by
 refine kFn (fn := Tryz.f157) (fun F hFn hFH hFD => ?_)
 unfold rule_Same at h
 refine kq (kn 2 ?_)
 obtain ⟨y0, hy0, h0⟩ := bindS h
 refine kCg (some 7) [] (api_Rel__s0_ok hy0) (kr 1 (kX ?_))
 obtain rfl := oi h0
 exact kZ hFn hFH hFD
def rule_Right (x0 : List (List St150)) : Option (Bool) :=
 (Option.bind (rule_Text x0) fun y1 => (Option.bind (rule_Parse y1) fun y0 => (Option.bind (bif (decide (y0.2.2 = 0)) then (Option.bind (rule_Same x0 y0.1) fun y2 => (some y2)) else (some false)) fun (s0 : Bool) => (some s0))))
theorem rule_Right_ok {x0 : List (List St150)} {r : Bool} (h : rule_Right x0 = some r) : SC Tryz.prog 132 [lsv (encL encSt150 4) 1 x0] [] (.bool r) [] := by
 refine kFn (fn := Tryz.f132) (fun F hFn hFH hFD => ?_)
 unfold rule_Right at h
 refine kq (kn 1 (kAb 8 h (fun _ => rule_Text_ok) (fun y1 h0 => kAb 9 h0 (fun _ => rule_Parse_ok) (fun y0 h1 => kr 7 (kcN h1 (fun (s0 : Bool) => ([(2, .bool s0)], [])) (fun s0 hy0 => ?_) (fun s0 h2 => ?_))))))
 ·refine km 3 (kB 15 hy0 (fun h3 => ?_) (fun h4 => ?_))
  ·exact kc 2 (kAb 18 h3 (fun _ => rule_Same_ok) (fun y2 h5 => ke 2 (kNo h5 [2])))
  ·exact ke 5 (kNo h4 [2])
 ·refine kX ?_
  obtain rfl := oi h2
  exact kZ hFn hFH hFD
def plur_Read (x0 : List St91) : Option ((List St103) × Int × Int) :=
 (Option.bind (loopN (fun (s0 : Int × Int × (List St103)) => (bif (decide (s0.2.1 < (x0.length : Int))) then (Option.bind (bif inR s0.2.1 x0.length then (Option.bind (plur_rises s0.1 ((nth x0 s0.2.1).Cat_)) fun y1 => (bif (!y1) then (some (.inr (.inr (.inr (([] : List St103), s0.2.1, 1))))) else (Option.bind (rule_Parse ((nth x0 s0.2.1).Text_)) fun y0 => (Option.bind (Option.bind (bif (decide (¬ y0.2.2 = 0)) then (some true) else (Option.bind (rule_Right y0.1) fun y2 => (some (!y2)))) fun (s2 : Bool) => (bif s2 then (some (.inr (.inr (.inr (.inr (([] : List St103), s0.2.1, 2)))))) else (some (.inl ())))) (joinX fun (s4 : Unit) => (bif room (s0.2.2.length + (([(⟨(nth x0 s0.2.1).Cat_, y0.1⟩ : St103)] : List St103)).length) then (some (.inl ((s0.2.2 ++ (([(⟨(nth x0 s0.2.1).Cat_, y0.1⟩ : St103)] : List St103)))))) else none)))))) else none) (joinX fun (s3 : (List St103)) => (some (.inl ((nth x0 s0.2.1).Cat_, (IntKind.wrap .i64 (s0.2.1 + 1)), s3))))) else (some (.inr (.inl s0.2.2))))) big (0, 0, ([] : List St103))) (joinX fun (s1 : (List St103)) => (some (s1, 0, 0))))
theorem plur_Read_ok {x0 : List St91} {r : (List St103) × Int × Int} (h : plur_Read x0 = some r) : SC Tryz.prog 100 [lsv encSt91 2 x0] [] (.tup [lsv encSt103 2 r.1, iL r.2.1, iL r.2.2]) [] := by
 refine kFn (fn := Tryz.f100) (fun F hFn hFH hFD => ?_)
 unfold plur_Read at h
 refine kq (kq (kq (kcX h (fun (s1 : (List St103)) => ([(2, .nl), (3, iL 0), (4, iL 0), (5, .vc 0)], [vecL encSt103 2 104 s1])) (fun y3 hy0 h0 => ?_) (fun s1 h2 => ?_))))
 ·refine kq (kb 0 (J.wk (Wk.viv 5 2 104 (by kernel_rfl)) (kl (fun (s0 : Int × Int × (List St103)) => ([(2, .nl), (3, iL 0), (4, iL 0), (5, .vc 0), (6, iL s0.1), (12, lsv encSt91 2 x0), (13, iL (x0.length : Int)), (14, iL s0.2.1)], [vecL encSt103 2 104 s0.2.2])) hy0 [2, 3, 4, 5, 6, 12, 13, 14] (fun s0 x761 hs0 => kq (kS (kBT 15 hs0 (fun h3 => ?_) (fun h4 => ?_)))))))
  ·refine kKN (kcX h3 (fun (s3 : (List St103)) => ([(2, .nl), (3, iL 0), (4, iL 0), (5, .vc 0), (6, iL ((nth x0 s0.2.1).Cat_)), (12, lsv encSt91 2 x0), (13, iL (x0.length : Int)), (14, iL s0.2.1)], [vecL encSt103 2 104 s3])) (fun y4 hy1 h1 => ?_) (fun s3 h5 => ?_))
   ·refine kb 1 (kn 1 (kIb 17 encSt91_len hy1 (fun h6 => kr 4 (kS (kn 3 (kAb 22 h6 (fun _ => plur_rises_ok) (fun y1 h7 => kr 1 (kBT 23 h7 (fun h8 => ?_) (fun h9 => ?_)))))))))
    ·refine kq (kX (PJ.passRet (PJ.blockRet ?_)))
     obtain rfl := oi h8
     have h10 := joinX_inr h1
     refine PJ.cutXr (fun e => nomatch e) ?_
     obtain rfl := oi h10
     refine PJ.loopOut (fun e => nomatch e) (fun he0 => ?_)
     have h11 := congrArg some he0
     refine PJ.blockRet ?_
     obtain rfl := oi h11
     have h12 := joinX_inr h0
     refine PJ.cutXr (fun e => nomatch e) ?_
     obtain rfl := oi h12
     exact PJ.res (v1 := .tup [.nl, iL s0.2.1, iL 1]) (Le.tup (.cons (Le.nl _) (.cons (Le.refl _) (.cons (Le.refl _) .nil)))) (kZ hFn hFH hFD)
    ·refine kKN (kn 2 (kAb 28 h9 (fun _ => rule_Parse_ok) (fun y0 h13 => kr 7 (kcX h13 (fun (s4 : Unit) => ([(2, .nl), (3, iL 0), (4, iL 0), (5, .vc 0), (6, iL s0.1), (8, .ptr 1 0), (9, lsv (encL encSt150 4) 1 y0.1), (12, lsv encSt91 2 x0), (13, iL (x0.length : Int)), (14, iL s0.2.1)], [vecL encSt103 2 104 s0.2.2, .box [iL ((nth x0 s0.2.1).Cat_), .str ((nth x0 s0.2.1).Text_)]])) (fun y5 hy2 h14 => ?_) (fun s4 h15 => ?_)))))
     ·refine kcN hy2 (fun (s2 : Bool) => ([(2, .nl), (3, iL 0), (4, iL 0), (5, .vc 0), (6, iL s0.1), (7, iL s0.2.1), (8, .ptr 1 0), (9, lsv (encL encSt150 4) 1 y0.1), (12, lsv encSt91 2 x0), (13, iL (x0.length : Int)), (14, iL s0.2.1), (38, .bool s2)], [vecL encSt103 2 104 s0.2.2, .box [iL ((nth x0 s0.2.1).Cat_), .str ((nth x0 s0.2.1).Text_)]])) (fun s2 hy3 => ?_) (fun s2 h16 => ?_)
      ·refine km 3 (kB 34 hy3 (fun h17 => ?_) (fun h18 => ?_))
       ·exact RJ.seg 4 [2, 3, 4, 5, 6, 7, 8, 9, 12, 13, 14, 38] (L2 := [(2, .nl), (3, iL 0), (4, iL 0), (5, .vc 0), (6, iL s0.1), (7, iL s0.2.1), (8, .ptr 1 0), (9, lsv (encL encSt150 4) 1 y0.1), (12, lsv encSt91 2 x0), (13, iL (x0.length : Int)), (14, iL s0.2.1), (38, .bool true)]) (H2 := [vecL encSt103 2 104 s0.2.2, .box [iL ((nth x0 s0.2.1).Cat_), .str ((nth x0 s0.2.1).Text_)]]) (by kernel_rfl) (kE (kNo h17 [2, 3, 4, 5, 6, 7, 8, 9, 12, 13, 14, 38]))
       ·exact RJ.seg 1 [2, 3, 4, 5, 6, 7, 8, 9, 12, 13, 14, 34, 35] (L2 := [(2, .nl), (3, iL 0), (4, iL 0), (5, .vc 0), (6, iL s0.1), (7, iL s0.2.1), (8, .ptr 1 0), (9, lsv (encL encSt150 4) 1 y0.1), (12, lsv encSt91 2 x0), (13, iL (x0.length : Int)), (14, iL s0.2.1), (34, .bool false), (35, lsv (encL encSt150 4) 1 y0.1)]) (H2 := [vecL encSt103 2 104 s0.2.2, .box [iL ((nth x0 s0.2.1).Cat_), .str ((nth x0 s0.2.1).Text_)]]) (by kernel_rfl) (kAb 36 h18 (fun _ => rule_Right_ok) (fun y2 h19 => ke 2 (kNo h19 [2, 3, 4, 5, 6, 7, 8, 9, 12, 13, 14, 38])))
      ·refine kBT 38 h16 (fun h20 => ?_) (fun h21 => ?_)
       ·refine kq (kX ?_)
        obtain rfl := oi h20
        have h22 := joinX_inr h14
        refine PJ.cutXr (fun e => nomatch e) (PJ.blockRet ?_)
        obtain rfl := oi h22
        have h23 := joinX_inr h1
        refine PJ.cutXr (fun e => nomatch e) ?_
        obtain rfl := oi h23
        refine PJ.loopOut (fun e => nomatch e) (fun he1 => ?_)
        have h24 := congrArg some he1
        refine PJ.blockRet ?_
        obtain rfl := oi h24
        have h25 := joinX_inr h0
        refine PJ.cutXr (fun e => nomatch e) ?_
        obtain rfl := oi h25
        exact PJ.res (v1 := .tup [.nl, iL s0.2.1, iL 2]) (Le.tup (.cons (Le.nl _) (.cons (Le.refl _) (.cons (Le.refl _) .nil)))) (kZ hFn hFH hFD)
       ·exact kK (kXo h21 [2, 3, 4, 5, 6, 8, 9, 12, 13, 14])
     ·exact kn 6 (kAp 46 0 3 2 104 [0, 2] encSt103 h15 (fun h26 => kr 1 (kM (PJ.blockNormal (kXW h26 hFH hFD [3])))))
   ·exact kM (kLo h5 [2, 3, 4, 5, 6, 12, 13, 14])
  ·refine K.exit 0 (by kernel_rfl) (PJ.passExit ?_)
   obtain rfl := oi h4
   refine PJ.loopOut (fun e => nomatch e) (fun he2 => ?_)
   have h27 := congrArg some he2
   exact PJ.blockOut (kXo h27 [2, 3, 4, 5])
 ·refine kq (kX ?_)
  obtain rfl := oi h2
  exact PJ.wk (Wk.freeze 0 (n := s1.length) (k := 2) (e := 104) (cs := s1.flatMap encSt103) (by kernel_rfl)) (kZ hFn hFH hFD)
def loc_checker__rules (x0 : St93) : Option (Int × Bool) :=
 (Option.bind (plur_Read x0.Locale_.Rules_) fun y0 => (some (y0.2.1, (decide (y0.2.2 = 0)))))
theorem loc_checker__rules_ok {x0 : St93} {r : Int × Bool} (h : loc_checker__rules x0 = some r) : SC Tryz.prog 55 [.agg (encSt93 x0)] [] (.tup [iL r.1, .bool r.2]) [] := by
 refine kFn (fn := Tryz.f55) (fun F hFn hFH hFD => ?_)
 unfold loc_checker__rules at h
 refine kq (kn 3 (kAb 11 h (fun _ => plur_Read_ok) (fun y0 h0 => kr 7 (kq (kX ?_)))))
 obtain rfl := oi h0
 exact kZ hFn hFH hFD
def loc_code (x0 : List UInt8) : Option (Bool) :=
 (bif (decide (¬ (x0.length : Int) = 3)) then (some false) else (Option.bind (loopN (fun (s0 : Int) => (bif (decide (s0 < ((bytesI x0).length : Int))) then (bif inR s0 (bytesI x0).length then (Option.bind (loc_capital (nth (bytesI x0) s0)) fun y0 => (bif (!y0) then (some (.inr (.inr false))) else (some (.inl (IntKind.wrap .i64 (s0 + 1)))))) else none) else (some (.inr (.inl ()))))) big 0) (joinX fun (s1 : Unit) => (some true))))
theorem loc_code_ok {x0 : List UInt8} {r : Bool} (h : loc_code x0 = some r) : SC Tryz.prog 101 [.str x0] [] (.bool r) [] := by
 refine kFn (fn := Tryz.f101) (fun F hFn hFH hFD => ?_)
 unfold loc_code at h
 refine kq (kS (kq (kBT 7 h (fun h0 => ?_) (fun h1 => ?_))))
 ·refine kq (kX (PJ.passRet ?_))
  obtain rfl := oi h0
  exact kZ hFn hFH hFD
 ·refine kKN (kcX h1 (fun (s1 : Unit) => ([(2, .bool false)], [])) (fun y1 hy0 h2 => ?_) (fun s1 h3 => ?_))
  ·refine kn 1 (RJ.rel (d := (some 9)) (ef := ⟨.lst x0.length 1 (x0.map byteSV), [], []⟩) (ef' := ⟨lB (bytesI x0), [], []⟩) (c := true) (tr2 := []) (H2 := []) (by kernel_rfl) rfl (fun hc => N.toBytes) (by kernel_rfl) (kr 2 (kb 0 (kl (fun (s0 : Int) => ([(2, .bool false), (9, lB (bytesI x0)), (10, iL ((bytesI x0).length : Int)), (11, iL s0)], [])) hy0 [2, 9, 10, 11] (fun s0 x89 hs0 => kq (kS (kBT 12 hs0 (fun h4 => ?_) (fun h5 => ?_))))))))
   ·refine kKN (kS (kb 1 (kSR (kIb 13 (encI_len .u8) h4 (fun h6 => kr 2 (kn 1 (kAb 16 h6 (fun _ => loc_capital_ok) (fun y0 h7 => kr 1 (kBT 17 h7 (fun h8 => ?_) (fun h9 => ?_))))))))))
    ·refine kq (kX (PJ.blockRet (PJ.passRet ?_)))
     obtain rfl := oi h8
     refine PJ.loopOut (fun e => nomatch e) (fun he0 => ?_)
     have h10 := congrArg some he0
     refine PJ.blockRet ?_
     obtain rfl := oi h10
     have h11 := joinX_inr h2
     refine PJ.cutXr (fun e => nomatch e) ?_
     obtain rfl := oi h11
     exact kZ hFn hFH hFD
    ·exact kK (PJ.blockNormal (PJ.next (kM (kLo h9 [2, 9, 10, 11]))))
   ·refine K.exit 0 (by kernel_rfl) (PJ.passExit ?_)
    obtain rfl := oi h5
    refine PJ.loopOut (fun e => nomatch e) (fun he1 => ?_)
    have h12 := congrArg some he1
    exact PJ.blockOut (kXo h12 [2])
  ·refine kq (kX ?_)
   obtain rfl := oi h3
   exact kZ hFn hFH hFD
def loc_Money (x0 : St22) (x1 : St32) (x2 : List Int) : Option (Bool) :=
 (Option.bind (Option.bind (bif (decide ((x2.length : Int) = 0)) then (some true) else (bif (decide ((x2.length : Int) > 20)) then (some true) else (Option.bind (sym_Calm x0 x2) fun y0 => (some (!y0))))) fun (s0 : Bool) => (bif s0 then (some (.inr false)) else (some (.inl ())))) (joinX fun (s2 : Unit) => (Option.bind (Option.bind (bif (decide (¬ x1.PadAt_ = 0)) then (Option.bind (slices_Contains x2 x1.Pad_) fun y1 => (some y1)) else (some false)) fun (s1 : Bool) => (bif s1 then (some (.inr false)) else (some (.inl ())))) (joinX fun (s3 : Unit) => (Option.bind (loc_toldApart x0 x1 x2) fun y2 => (some y2))))))
theorem loc_Money_ok {x0 : St22} {x1 : St32} {x2 : List Int} {r : Bool} (h : loc_Money x0 x1 x2 = some r) : SC Tryz.prog 20 [.agg (encSt22 x0), .agg (encSt32 x1), lR x2] [] (.bool r) [] := by
 refine kFn (fn := Tryz.f20) (fun F hFn hFH hFD => ?_)
 unfold loc_Money at h
 refine kq (kcX h (fun (s2 : Unit) => ([(2, lR x2), (3, .ptr 0 0), (4, .ptr 1 0), (6, .bool false)], [.box (encSt22 x0), .box (encSt32 x1)])) (fun y3 hy0 h0 => ?_) (fun s2 h1 => ?_))
 ·refine kcN hy0 (fun (s0 : Bool) => ([(2, lR x2), (3, .ptr 0 0), (4, .ptr 1 0), (6, .bool false), (20, .bool s0)], [.box (encSt22 x0), .box (encSt32 x1)])) (fun s0 hy1 => ?_) (fun s0 h2 => ?_)
  ·refine km 4 (kB 10 hy1 (fun h3 => ?_) (fun h4 => ?_))
   ·exact ke 10 (kNo h3 [2, 3, 4, 6, 20])
   ·refine kc 5 (kB 15 h4 (fun h5 => ?_) (fun h6 => ?_))
    ·exact ke 5 (kNo h5 [2, 3, 4, 6, 20])
    ·exact kc 2 (kAb 18 h6 (fun _ => sym_Calm_ok) (fun y0 h7 => ke 2 (kNo h7 [2, 3, 4, 6, 20])))
  ·refine kBT 20 h2 (fun h8 => ?_) (fun h9 => ?_)
   ·refine kq (kX ?_)
    obtain rfl := oi h8
    have h10 := joinX_inr h0
    refine PJ.cutXr (fun e => nomatch e) ?_
    obtain rfl := oi h10
    exact kZ hFn hFH hFD
   ·exact kK (kXo h9 [2, 3, 4, 6])
 ·refine kcX h1 (fun (s3 : Unit) => ([(2, lR x2), (3, .ptr 0 0), (4, .ptr 1 0), (6, .bool false)], [.box (encSt22 x0), .box (encSt32 x1)])) (fun y4 hy2 h11 => ?_) (fun s3 h12 => ?_)
  ·refine kcN hy2 (fun (s1 : Bool) => ([(2, lR x2), (3, .ptr 0 0), (4, .ptr 1 0), (6, .bool false), (29, .bool s1)], [.box (encSt22 x0), .box (encSt32 x1)])) (fun s1 hy3 => ?_) (fun s1 h13 => ?_)
   ·refine km 4 (kB 24 hy3 (fun h14 => ?_) (fun h15 => ?_))
    ·exact kc 3 (kAb 28 h14 (fun _ => slices_Contains_ok) (fun y1 h16 => ke 1 (kNo h16 [2, 3, 4, 6, 29])))
    ·exact ke 5 (kNo h15 [2, 3, 4, 6, 29])
   ·refine kBT 29 h13 (fun h17 => ?_) (fun h18 => ?_)
    ·refine kq (kX ?_)
     obtain rfl := oi h17
     have h19 := joinX_inr h11
     refine PJ.cutXr (fun e => nomatch e) ?_
     obtain rfl := oi h19
     exact kZ hFn hFH hFD
    ·exact kK (kXo h18 [2, 3, 4, 6])
  ·refine kn 3 (kAb 33 h12 (fun _ => loc_toldApart_ok) (fun y2 h20 => kr 1 (kX ?_)))
   obtain rfl := oi h20
   exact kZ hFn hFH hFD
def loc_checker__currencies (x0 : St93) : Option (Int × Bool) :=
 (Option.bind (loc_Pattern x0.Locale_.S_ 3 x0.Locale_.Pats_.a3_) fun y0 => (Option.bind (loopN (fun (s0 : (List UInt8) × Int) => (bif (decide (s0.2 < (x0.Locale_.Curs_.length : Int))) then (Option.bind (bif inR s0.2 x0.Locale_.Curs_.length then (Option.bind (Option.bind (Option.bind (loc_code ((nth x0.Locale_.Curs_ s0.2).Code_)) fun y2 => (bif (!y2) then (some true) else (bif (Op.bytesLess ((nth x0.Locale_.Curs_ s0.2).Code_) s0.1 || ((nth x0.Locale_.Curs_ s0.2).Code_) == s0.1) then (some true) else (bif (decide (((nth x0.Locale_.Curs_ s0.2).Digits_) < 0)) then (some true) else (some ((decide (((nth x0.Locale_.Curs_ s0.2).Digits_) > 4)))))))) fun (s1 : Bool) => (bif s1 then (some (.inr (.inr (.inr (.inr (s0.2, false)))))) else (some (.inl ())))) (joinX fun (s3 : Unit) => (Option.bind (utf_Decode ((bytesI ((nth x0.Locale_.Curs_ s0.2).Sign_)))) fun y1 => (Option.bind (Option.bind (bif (decide (¬ y1.2.2 = 0)) then (some true) else (Option.bind (loc_Money x0.Locale_.S_ y0.1 y1.1) fun y3 => (some (!y3)))) fun (s2 : Bool) => (bif s2 then (some (.inr (.inr (.inr (.inr (s0.2, false)))))) else (some (.inl ())))) (joinX fun (s4 : Unit) => (some (.inl ()))))))) else none) (joinX fun (s5 : Unit) => (some (.inl ((nth x0.Locale_.Curs_ s0.2).Code_, (IntKind.wrap .i64 (s0.2 + 1))))))) else (some (.inr (.inl ()))))) big (([] : List UInt8), 0)) (joinX fun (s6 : Unit) => (some (100, (decide ((x0.Locale_.Curs_.length : Int) ≤ 100)))))))
theorem loc_checker__currencies_ok {x0 : St93} {r : Int × Bool} (h : loc_checker__currencies x0 = some r) : SC Tryz.prog 56 [.agg (encSt93 x0)] [] (.tup [iL r.1, .bool r.2]) [] := by
 refine kFn (fn := Tryz.f56) (fun F hFn hFH hFD => ?_)
 unfold loc_checker__currencies at h
 refine kq (kn 7 (kAb 20 h (fun _ => loc_Pattern_ok) (fun y0 h2 => kr 6 (kq (kcX h2 (fun (s6 : Unit) => ([(1, .ptr 0 0), (2, iL 0), (3, .bool false)], [.box (encSt93 x0)])) (fun y4 hy0 h0 => ?_) (fun s6 h3 => ?_))))))
 ·refine kq (kb 0 (kl (fun (s0 : (List UInt8) × Int) => ([(1, .ptr 0 0), (2, iL 0), (3, .bool false), (4, .ptr 1 0), (6, .str s0.1), (25, lsv encSt58 3 x0.Locale_.Curs_), (26, iL (x0.Locale_.Curs_.length : Int)), (27, iL s0.2)], [.box (encSt93 x0), .box (encSt32 y0.1)])) hy0 [1, 2, 3, 4, 6, 25, 26, 27] (fun s0 x1444 hs0 => kq (kS (kBT 28 hs0 (fun h4 => ?_) (fun h5 => ?_))))))
  ·refine kKN (kcX h4 (fun (s5 : Unit) => ([(1, .ptr 0 0), (2, iL 0), (3, .bool false), (4, .ptr 1 0), (6, .str ((nth x0.Locale_.Curs_ s0.2).Code_)), (25, lsv encSt58 3 x0.Locale_.Curs_), (26, iL (x0.Locale_.Curs_.length : Int)), (27, iL s0.2)], [.box (encSt93 x0), .box (encSt32 y0.1)])) (fun y5 hy1 h1 => ?_) (fun s5 h6 => ?_))
   ·refine kb 1 (kn 1 (kIb 30 encSt58_len hy1 (fun h7 => kr 4 (kcX h7 (fun (s3 : Unit) => ([(1, .ptr 0 0), (2, iL 0), (3, .bool false), (4, .ptr 1 0), (6, .str s0.1), (7, iL s0.2), (8, .ptr 2 0), (25, lsv encSt58 3 x0.Locale_.Curs_), (26, iL (x0.Locale_.Curs_.length : Int)), (27, iL s0.2)], [.box (encSt93 x0), .box (encSt32 y0.1), .box [.str ((nth x0.Locale_.Curs_ s0.2).Code_), .str ((nth x0.Locale_.Curs_ s0.2).Sign_), iL ((nth x0.Locale_.Curs_ s0.2).Digits_)]])) (fun y6 hy2 h8 => ?_) (fun s3 h9 => ?_)))))
    ·refine kcN hy2 (fun (s1 : Bool) => ([(1, .ptr 0 0), (2, iL 0), (3, .bool false), (4, .ptr 1 0), (6, .str s0.1), (7, iL s0.2), (8, .ptr 2 0), (25, lsv encSt58 3 x0.Locale_.Curs_), (26, iL (x0.Locale_.Curs_.length : Int)), (27, iL s0.2), (51, .bool s1)], [.box (encSt93 x0), .box (encSt32 y0.1), .box [.str ((nth x0.Locale_.Curs_ s0.2).Code_), .str ((nth x0.Locale_.Curs_ s0.2).Sign_), iL ((nth x0.Locale_.Curs_ s0.2).Digits_)]])) (fun s1 hy3 => ?_) (fun s1 h10 => ?_)
     ·refine km 2 (kAb 34 hy3 (fun _ => loc_code_ok) (fun y2 h11 => kc 2 (kB 36 h11 (fun h12 => ?_) (fun h13 => ?_))))
      ·exact ke 15 (kNo h12 [1, 2, 3, 4, 6, 7, 8, 25, 26, 27, 51])
      ·refine kc 6 (kB 42 h13 (fun h14 => ?_) (fun h15 => ?_))
       ·exact ke 9 (kNo h14 [1, 2, 3, 4, 6, 7, 8, 25, 26, 27, 51])
       ·refine kc 5 (kB 47 h15 (fun h16 => ?_) (fun h17 => ?_))
        ·exact ke 4 (kNo h16 [1, 2, 3, 4, 6, 7, 8, 25, 26, 27, 51])
        ·exact ke 4 (kNo h17 [1, 2, 3, 4, 6, 7, 8, 25, 26, 27, 51])
     ·refine kBT 51 h10 (fun h18 => ?_) (fun h19 => ?_)
      ·refine kq (kX ?_)
       obtain rfl := oi h18
       have h20 := joinX_inr h8
       refine PJ.cutXr (fun e => nomatch e) (PJ.blockRet ?_)
       obtain rfl := oi h20
       have h21 := joinX_inr h1
       refine PJ.cutXr (fun e => nomatch e) ?_
       obtain rfl := oi h21
       refine PJ.loopOut (fun e => nomatch e) (fun he0 => ?_)
       have h22 := congrArg some he0
       refine PJ.blockRet ?_
       obtain rfl := oi h22
       have h23 := joinX_inr h0
       refine PJ.cutXr (fun e => nomatch e) ?_
       obtain rfl := oi h23
       exact kZ hFn hFH hFD
      ·exact kK (kXo h19 [1, 2, 3, 4, 6, 7, 8, 25, 26, 27])
    ·refine kn 2 (RJ.rel (d := (some 56)) (ef := ⟨.lst ((nth x0.Locale_.Curs_ s0.2).Sign_).length 1 (((nth x0.Locale_.Curs_ s0.2).Sign_).map byteSV), [], []⟩) (ef' := ⟨lB (bytesI ((nth x0.Locale_.Curs_ s0.2).Sign_)), [], []⟩) (c := true) (tr2 := []) (H2 := [.box (encSt93 x0), .box (encSt32 y0.1), .box [.str ((nth x0.Locale_.Curs_ s0.2).Code_), .str ((nth x0.Locale_.Curs_ s0.2).Sign_), iL ((nth x0.Locale_.Curs_ s0.2).Digits_)]]) (by kernel_rfl) rfl (fun hc => N.toBytes) (by kernel_rfl) (kAb 57 h9 (fun _ => utf_Decode_ok) (fun y1 h24 => kr 7 (kcX h24 (fun (s4 : Unit) => ([(1, .ptr 0 0), (2, iL 0), (3, .bool false), (4, .ptr 1 0), (6, .str s0.1), (8, .ptr 2 0), (25, lsv encSt58 3 x0.Locale_.Curs_), (26, iL (x0.Locale_.Curs_.length : Int)), (27, iL s0.2)], [.box (encSt93 x0), .box (encSt32 y0.1), .box [.str ((nth x0.Locale_.Curs_ s0.2).Code_), .str ((nth x0.Locale_.Curs_ s0.2).Sign_), iL ((nth x0.Locale_.Curs_ s0.2).Digits_)]])) (fun y7 hy4 h25 => ?_) (fun s4 h26 => ?_)))))
     ·refine kcN hy4 (fun (s2 : Bool) => ([(1, .ptr 0 0), (2, iL 0), (3, .bool false), (4, .ptr 1 0), (6, .str s0.1), (7, iL s0.2), (8, .ptr 2 0), (25, lsv encSt58 3 x0.Locale_.Curs_), (26, iL (x0.Locale_.Curs_.length : Int)), (27, iL s0.2), (71, .bool s2)], [.box (encSt93 x0), .box (encSt32 y0.1), .box [.str ((nth x0.Locale_.Curs_ s0.2).Code_), .str ((nth x0.Locale_.Curs_ s0.2).Sign_), iL ((nth x0.Locale_.Curs_ s0.2).Digits_)]])) (fun s2 hy5 => ?_) (fun s2 h27 => ?_)
      ·refine km 3 (kB 63 hy5 (fun h28 => ?_) (fun h29 => ?_))
       ·exact ke 8 (kNo h28 [1, 2, 3, 4, 6, 7, 8, 25, 26, 27, 71])
       ·exact kc 5 (kAb 69 h29 (fun _ => loc_Money_ok) (fun y3 h30 => ke 2 (kNo h30 [1, 2, 3, 4, 6, 7, 8, 25, 26, 27, 71])))
      ·refine kBT 71 h27 (fun h31 => ?_) (fun h32 => ?_)
       ·refine kq (kX ?_)
        obtain rfl := oi h31
        have h33 := joinX_inr h25
        refine PJ.cutXr (fun e => nomatch e) (PJ.blockRet ?_)
        obtain rfl := oi h33
        have h34 := joinX_inr h1
        refine PJ.cutXr (fun e => nomatch e) ?_
        obtain rfl := oi h34
        refine PJ.loopOut (fun e => nomatch e) (fun he1 => ?_)
        have h35 := congrArg some he1
        refine PJ.blockRet ?_
        obtain rfl := oi h35
        have h36 := joinX_inr h0
        refine PJ.cutXr (fun e => nomatch e) ?_
        obtain rfl := oi h36
        exact kZ hFn hFH hFD
       ·exact kK (kXo h32 [1, 2, 3, 4, 6, 8, 25, 26, 27])
     ·exact kM (PJ.blockNormal (kXW h26 hFH hFD [0, 1]))
   ·exact kM (kLo h6 [1, 2, 3, 4, 6, 25, 26, 27])
  ·refine K.exit 0 (by kernel_rfl) (PJ.passExit ?_)
   obtain rfl := oi h5
   refine PJ.loopOut (fun e => nomatch e) (fun he2 => ?_)
   have h37 := congrArg some he2
   exact PJ.blockOut (kXW h37 hFH hFD [0])
 ·refine kS (kDr (kD 7 (kEN (kX ?_))))
  obtain rfl := oi h3
  exact kZ hFn hFH hFD
def plur_Name (x0 : Int) : Option (List UInt8) :=
 (Option.bind plur_names fun y0 => (Option.bind (Option.bind (bif (decide (x0 < 0)) then (some true) else (some (decide (x0 ≥ 6)))) fun (s0 : Bool) => (bif s0 then (some (.inr ([] : List UInt8))) else (some (.inl ())))) (joinX fun (s1 : Unit) => (bif (decide (x0 = 0)) then (some y0.a0_) else (bif (decide (x0 = 1)) then (some y0.a1_) else (bif (decide (x0 = 2)) then (some y0.a2_) else (bif (decide (x0 = 3)) then (some y0.a3_) else (bif (decide (x0 = 4)) then (some y0.a4_) else (bif (decide (x0 = 5)) then (some y0.a5_) else none)))))))))
theorem plur_Name_ok {x0 : Int} {r : List UInt8} (h : plur_Name x0 = some r) : SC Tryz.prog 46 [iL x0] [] (.str r) [] := by
 refine kFn (fn := Tryz.f46) (fun F hFn hFH hFD => ?_)
 unfold plur_Name at h
 refine kq (kSR (kAb 4 h (fun _ => plur_names_ok) (fun y0 h6 => kr 2 (kcX h6 (fun (s1 : Unit) => ([(0, iL x0), (2, .str ([] : List UInt8)), (3, .ptr 0 0)], [.box (encSt134 y0)])) (fun y1 hy0 h7 => ?_) (fun s1 h0 => ?_)))))
 ·refine kcN hy0 (fun (s0 : Bool) => ([(0, iL x0), (2, .str ([] : List UInt8)), (3, .ptr 0 0), (10, .bool s0)], [.box (encSt134 y0)])) (fun s0 hy1 => ?_) (fun s0 h8 => ?_)
  ·refine km 3 (kB 7 hy1 (fun h9 => ?_) (fun h10 => ?_))
   ·exact ke 3 (kNo h9 [0, 2, 3, 10])
   ·exact ke 3 (kNo h10 [0, 2, 3, 10])
  ·refine kBT 10 h8 (fun h11 => ?_) (fun h12 => ?_)
   ·refine kq (kX ?_)
    obtain rfl := oi h11
    have h13 := joinX_inr h7
    refine PJ.cutXr (fun e => nomatch e) ?_
    obtain rfl := oi h13
    exact kZ hFn hFH hFD
   ·exact kK (kXo h12 [0, 2, 3])
 ·refine kn 1 ?_
  cases hb0 : (decide (x0 = 0))
  ·have h1 := condF hb0 h0
   cases hb1 : (decide (x0 = 1))
   ·have h2 := condF hb1 h1
    cases hb2 : (decide (x0 = 2))
    ·have h3 := condF hb2 h2
     cases hb3 : (decide (x0 = 3))
     ·have h4 := condF hb3 h3
      cases hb4 : (decide (x0 = 4))
      ·have h5 := condF hb4 h4
       cases hb5 : (decide (x0 = 5))
       ·have h14 := condF hb5 h5
        cases h14
       ·have h15 := condT hb5 h5
        refine RJ.pin 11 (kd := .i64) (by kernel_rfl) (of_decide_eq_true hb5) (kr 3 (kX ?_))
        obtain rfl := oi h15
        exact kZ hFn hFH hFD
      ·have h16 := condT hb4 h4
       refine RJ.pin 11 (kd := .i64) (by kernel_rfl) (of_decide_eq_true hb4) (kr 3 (kX ?_))
       obtain rfl := oi h16
       exact kZ hFn hFH hFD
     ·have h17 := condT hb3 h3
      refine RJ.pin 11 (kd := .i64) (by kernel_rfl) (of_decide_eq_true hb3) (kr 3 (kX ?_))
      obtain rfl := oi h17
      exact kZ hFn hFH hFD
    ·have h18 := condT hb2 h2
     refine RJ.pin 11 (kd := .i64) (by kernel_rfl) (of_decide_eq_true hb2) (kr 3 (kX ?_))
     obtain rfl := oi h18
     exact kZ hFn hFH hFD
   ·have h19 := condT hb1 h1
    refine RJ.pin 11 (kd := .i64) (by kernel_rfl) (of_decide_eq_true hb1) (kr 3 (kX ?_))
    obtain rfl := oi h19
    exact kZ hFn hFH hFD
  ·have h20 := condT hb0 h0
   refine RJ.pin 11 (kd := .i64) (by kernel_rfl) (of_decide_eq_true hb0) (kr 3 (kX ?_))
   obtain rfl := oi h20
   exact kZ hFn hFH hFD
def loc_Short (x0 : St22) (x1 : St25) : Option (St32 × Bool) :=
 (Option.bind (loc_read x1.Pat_) fun y0 => (Option.bind (Option.bind (bif (!y0.2) then (some true) else (bif (decide (x1.Mag_ < 2)) then (some true) else (bif (decide (x1.Mag_ > 30)) then (some true) else (Option.bind (plur_Name x1.Cat_) fun y2 => (some (y2 == ([] : List UInt8))))))) fun (s0 : Bool) => (bif s0 then (some (.inr ((⟨([] : List St106), ([] : List St106), ([] : List St106), ([] : List St106), false, 0, 0, 0, 0, 0, 0, 0, 0, 0, false, 0, 0⟩ : St32), false))) else (some (.inl ())))) (joinX fun (s3 : Unit) => (Option.bind (Option.bind (bif (decide (y0.1.MinInt_ < 1)) then (some true) else (bif (decide (y0.1.MinInt_ ≥ x1.Mag_)) then (some true) else (bif y0.1.Neg_ then (some true) else (some ((decide (((IntKind.wrap .i64 ((y0.1.Pre_.length : Int) + (y0.1.Suf_.length : Int)))) = 0))))))) fun (s1 : Bool) => (bif s1 then (some (.inr ((⟨([] : List St106), ([] : List St106), ([] : List St106), ([] : List St106), false, 0, 0, 0, 0, 0, 0, 0, 0, 0, false, 0, 0⟩ : St32), false))) else (some (.inl ())))) (joinX fun (s4 : Unit) => (bif (!((decide (y0.1.Hash_ = 0)) && ((decide (y0.1.G1_ = 0)) && ((decide (y0.1.MaxFrac_ = 0)) && ((decide (y0.1.MinSig_ = 0)) && ((decide (y0.1.Exp_ = 0)) && ((decide (y0.1.PadAt_ = 0)) && true))))))) then (some ((⟨([] : List St106), ([] : List St106), ([] : List St106), ([] : List St106), false, 0, 0, 0, 0, 0, 0, 0, 0, 0, false, 0, 0⟩ : St32), false)) else (Option.bind (Option.bind (Option.bind (loc_pieced y0.1.Pre_ y0.1.Suf_ 0 0) fun y3 => (bif (!y3) then (some true) else (Option.bind (loc_toldApart x0 y0.1 ([] : List Int)) fun y1 => (some (!y1))))) fun (s2 : Bool) => (bif s2 then (some (.inr ((⟨([] : List St106), ([] : List St106), ([] : List St106), ([] : List St106), false, 0, 0, 0, 0, 0, 0, 0, 0, 0, false, 0, 0⟩ : St32), false))) else (some (.inl ())))) (joinX fun (s5 : Unit) => (some (y0.1, true))))))))))
theorem loc_Short_ok {x0 : St22} {x1 : St25} {r : St32 × Bool} (h : loc_Short x0 x1 = some r) : SC Tryz.prog 13 [.agg (encSt22 x0), .agg (encSt25 x1)] [] (.tup [.agg (encSt32 r.1), .bool r.2]) [] := by
 refine kFn (fn := Tryz.f13) (fun F hFn hFH hFD => ?_)
 unfold loc_Short at h
 refine kq (kn 2 (kAb 11 h (fun _ => loc_read_ok) (fun y0 h0 => kr 6 (kcX h0 (fun (s3 : Unit) => ([(2, .ptr 0 0), (3, .ptr 1 0), (4, .ptr 2 0), (5, .bool false), (6, .ptr 3 0)], [.box (encSt22 x0), .box (encSt25 x1), .box [.nl, .nl, .nl, .nl, .bool false, iL 0, iL 0, iL 0, iL 0, iL 0, iL 0, iL 0, iL 0, iL 0, .bool false, iM 0, iL 0], .box (encSt32 y0.1)])) (fun y4 hy0 h1 => ?_) (fun s3 h2 => ?_)))))
 ·refine kcN hy0 (fun (s0 : Bool) => ([(2, .ptr 0 0), (3, .ptr 1 0), (4, .ptr 2 0), (5, .bool false), (6, .ptr 3 0), (31, .bool s0)], [.box (encSt22 x0), .box (encSt25 x1), .box [.nl, .nl, .nl, .nl, .bool false, iL 0, iL 0, iL 0, iL 0, iL 0, iL 0, iL 0, iL 0, iL 0, .bool false, iM 0, iL 0], .box (encSt32 y0.1)])) (fun s0 hy1 => ?_) (fun s0 h3 => ?_)
  ·refine km 3 (kB 16 hy1 (fun h4 => ?_) (fun h5 => ?_))
   ·exact ke 15 (kNo h4 [2, 3, 4, 5, 6, 31])
   ·refine kc 5 (kB 21 h5 (fun h6 => ?_) (fun h7 => ?_))
    ·exact ke 10 (kNo h6 [2, 3, 4, 5, 6, 31])
    ·refine kc 5 (kB 26 h7 (fun h8 => ?_) (fun h9 => ?_))
     ·exact ke 5 (kNo h8 [2, 3, 4, 5, 6, 31])
     ·exact kc 2 (kAb 29 h9 (fun _ => plur_Name_ok) (fun y2 h10 => ke 2 (kNo h10 [2, 3, 4, 5, 6, 31])))
  ·refine kBT 31 h3 (fun h11 => ?_) (fun h12 => ?_)
   ·refine kq (kX ?_)
    obtain rfl := oi h11
    have h13 := joinX_inr h1
    refine PJ.cutXr (fun e => nomatch e) ?_
    obtain rfl := oi h13
    exact PJ.res (v1 := .tup [.agg [.nl, .nl, .nl, .nl, .bool false, iL 0, iL 0, iL 0, iL 0, iL 0, iL 0, iL 0, iL 0, iL 0, .bool false, iM 0, iL 0], .bool false]) (Le.tup (.cons (Le.agg (.cons (Le.nl _) (.cons (Le.nl _) (.cons (Le.nl _) (.cons (Le.nl _) (.cons (Le.refl _) (.cons (Le.refl _) (.cons (Le.refl _) (.cons (Le.refl _) (.cons (Le.refl _) (.cons (Le.refl _) (.cons (Le.refl _) (.cons (Le.refl _) (.cons (Le.refl _) (.cons (Le.refl _) (.cons (Le.refl _) (.cons (Le.refl _) (.cons (Le.refl _) .nil)))))))))))))))))) (.cons (Le.refl _) .nil))) (kZ hFn hFH hFD)
   ·exact kK (kXo h12 [2, 3, 4, 5, 6])
 ·refine kcX h2 (fun (s4 : Unit) => ([(2, .ptr 0 0), (4, .ptr 1 0), (5, .bool false), (6, .ptr 2 0)], [.box (encSt22 x0), .box [.nl, .nl, .nl, .nl, .bool false, iL 0, iL 0, iL 0, iL 0, iL 0, iL 0, iL 0, iL 0, iL 0, .bool false, iM 0, iL 0], .box (encSt32 y0.1)])) (fun y5 hy2 h14 => ?_) (fun s4 h15 => ?_)
  ·refine kcN hy2 (fun (s1 : Bool) => ([(2, .ptr 0 0), (4, .ptr 1 0), (5, .bool false), (6, .ptr 2 0), (56, .bool s1)], [.box (encSt22 x0), .box [.nl, .nl, .nl, .nl, .bool false, iL 0, iL 0, iL 0, iL 0, iL 0, iL 0, iL 0, iL 0, iL 0, .bool false, iM 0, iL 0], .box (encSt32 y0.1)])) (fun s1 hy3 => ?_) (fun s1 h16 => ?_)
   ·refine km 4 (kB 36 hy3 (fun h17 => ?_) (fun h18 => ?_))
    ·exact ke 20 (kNW h17 hFH hFD [0, 2, 3])
    ·refine kc 7 (kB 43 h18 (fun h19 => ?_) (fun h20 => ?_))
     ·exact ke 13 (kNW h19 hFH hFD [0, 2, 3])
     ·refine kc 4 (kB 47 h20 (fun h21 => ?_) (fun h22 => ?_))
      ·exact ke 9 (kNW h21 hFH hFD [0, 2, 3])
      ·exact ke 9 (kNW h22 hFH hFD [0, 2, 3])
   ·refine kBT 56 h16 (fun h23 => ?_) (fun h24 => ?_)
    ·refine kq (kX ?_)
     obtain rfl := oi h23
     have h25 := joinX_inr h14
     refine PJ.cutXr (fun e => nomatch e) ?_
     obtain rfl := oi h25
     exact PJ.res (v1 := .tup [.agg [.nl, .nl, .nl, .nl, .bool false, iL 0, iL 0, iL 0, iL 0, iL 0, iL 0, iL 0, iL 0, iL 0, .bool false, iM 0, iL 0], .bool false]) (Le.tup (.cons (Le.agg (.cons (Le.nl _) (.cons (Le.nl _) (.cons (Le.nl _) (.cons (Le.nl _) (.cons (Le.refl _) (.cons (Le.refl _) (.cons (Le.refl _) (.cons (Le.refl _) (.cons (Le.refl _) (.cons (Le.refl _) (.cons (Le.refl _) (.cons (Le.refl _) (.cons (Le.refl _) (.cons (Le.refl _) (.cons (Le.refl _) (.cons (Le.refl _) (.cons (Le.refl _) .nil)))))))))))))))))) (.cons (Le.refl _) .nil))) (kZ hFn hFH hFD)
    ·exact kK (kXo h24 [2, 4, 5, 6])
  ·refine kS (kq (kBT 72 h15 (fun h26 => ?_) (fun h27 => ?_)))
   ·refine kq (kX (PJ.passRet ?_))
    obtain rfl := oi h26
    exact PJ.res (v1 := .tup [.agg [.nl, .nl, .nl, .nl, .bool false, iL 0, iL 0, iL 0, iL 0, iL 0, iL 0, iL 0, iL 0, iL 0, .bool false, iM 0, iL 0], .bool false]) (Le.tup (.cons (Le.agg (.cons (Le.nl _) (.cons (Le.nl _) (.cons (Le.nl _) (.cons (Le.nl _) (.cons (Le.refl _) (.cons (Le.refl _) (.cons (Le.refl _) (.cons (Le.refl _) (.cons (Le.refl _) (.cons (Le.refl _) (.cons (Le.refl _) (.cons (Le.refl _) (.cons (Le.refl _) (.cons (Le.refl _) (.cons (Le.refl _) (.cons (Le.refl _) (.cons (Le.refl _) .nil)))))))))))))))))) (.cons (Le.refl _) .nil))) (kZ hFn hFH hFD)
   ·refine kKN (kcX h27 (fun (s5 : Unit) => ([(4, .ptr 0 0), (5, .bool false), (6, .ptr 1 0)], [.box [.nl, .nl, .nl, .nl, .bool false, iL 0, iL 0, iL 0, iL 0, iL 0, iL 0, iL 0, iL 0, iL 0, .bool false, iM 0, iL 0], .box (encSt32 y0.1)])) (fun y6 hy4 h28 => ?_) (fun s5 h29 => ?_))
    ·refine kcN hy4 (fun (s2 : Bool) => ([(4, .ptr 0 0), (5, .bool false), (6, .ptr 1 0), (85, .bool s2)], [.box [.nl, .nl, .nl, .nl, .bool false, iL 0, iL 0, iL 0, iL 0, iL 0, iL 0, iL 0, iL 0, iL 0, .bool false, iM 0, iL 0], .box (encSt32 y0.1)])) (fun s2 hy5 => ?_) (fun s2 h30 => ?_)
     ·refine km 4 (kAb 78 hy5 (fun _ => loc_pieced_ok) (fun y3 h31 => kc 2 (kB 80 h31 (fun h32 => ?_) (fun h33 => ?_))))
      ·exact ke 5 (kNW h32 hFH hFD [1, 2])
      ·refine kc 2 ?_
       obtain ⟨y1, hy6, h34⟩ := bindS h33
       exact RJ.call0 (d := (some 83)) (f := 40) (args := [.agg (encSt22 x0), .agg (encSt32 y0.1), .nl]) (v := .bool y1) (tr2 := []) (by kernel_rfl) (by kernel_rfl) (.cons (Le.refl _) (.cons (Le.refl _) (.cons (Le.nl _) .nil))) (loc_toldApart_ok hy6) (by kernel_rfl) (ke 2 (kNW h34 hFH hFD [1, 2]))
     ·refine kBT 85 h30 (fun h35 => ?_) (fun h36 => ?_)
      ·refine kq (kX ?_)
       obtain rfl := oi h35
       have h37 := joinX_inr h28
       refine PJ.cutXr (fun e => nomatch e) ?_
       obtain rfl := oi h37
       exact PJ.res (v1 := .tup [.agg [.nl, .nl, .nl, .nl, .bool false, iL 0, iL 0, iL 0, iL 0, iL 0, iL 0, iL 0, iL 0, iL 0, .bool false, iM 0, iL 0], .bool false]) (Le.tup (.cons (Le.agg (.cons (Le.nl _) (.cons (Le.nl _) (.cons (Le.nl _) (.cons (Le.nl _) (.cons (Le.refl _) (.cons (Le.refl _) (.cons (Le.refl _) (.cons (Le.refl _) (.cons (Le.refl _) (.cons (Le.refl _) (.cons (Le.refl _) (.cons (Le.refl _) (.cons (Le.refl _) (.cons (Le.refl _) (.cons (Le.refl _) (.cons (Le.refl _) (.cons (Le.refl _) .nil)))))))))))))))))) (.cons (Le.refl _) .nil))) (kZ hFn hFH hFD)
      ·exact kK (kXo h36 [4, 5, 6])
    ·refine kq (kX ?_)
     obtain rfl := oi h29
     exact kZ hFn hFH hFD
def loc_rises (x0 x1 : St25) : Option (Bool) :=
 (Option.bind (bif (decide (x1.Mag_ > x0.Mag_)) then (some true) else (bif (decide (x1.Mag_ = x0.Mag_)) then (some (decide (x1.Cat_ > x0.Cat_))) else (some false))) fun (s0 : Bool) => (some s0))
theorem loc_rises_ok {x0 x1 : St25} {r : Bool} (h : loc_rises x0 x1 = some r) : SC Tryz.prog 103 [.agg (encSt25 x0), .agg (encSt25 x1)] [] (.bool r) [] := by
 refine kFn (fn := Tryz.f103) (fun F hFn hFH hFD => ?_)
 unfold loc_rises at h
 refine kq (kcN h (fun (s0 : Bool) => ([(4, .bool s0)], [])) (fun s0 hy0 => ?_) (fun s0 h0 => ?_))
 ·refine km 6 (kB 10 hy0 (fun h1 => ?_) (fun h2 => ?_))
  ·exact ke 14 (kNW h1 hFH hFD [])
  ·refine kc 6 (kB 16 h2 (fun h3 => ?_) (fun h4 => ?_))
   ·exact ke 8 (kNW h3 hFH hFD [])
   ·exact ke 8 (kNW h4 hFH hFD [])
 ·refine kX ?_
  obtain rfl := oi h0
  exact kZ hFn hFH hFD
def loc_Power (x0 : St25) (x1 : St32) : Option (Int) :=
 (some (IntKind.wrap .i64 (x0.Mag_ - x1.MinInt_)))
theorem loc_Power_ok {x0 : St25} {x1 : St32} {r : Int} (h : loc_Power x0 x1 = some r) : SC Tryz.prog 18 [.agg (encSt25 x0), .agg (encSt32 x1)] [] (iL r) [] := by
 refine kFn (fn := Tryz.f18) (fun F hFn hFH hFD => ?_)
 unfold loc_Power at h
 refine kq (kq (kX ?_))
 obtain rfl := oi h
 exact kZ hFn hFH hFD
def loc_checker__compacts (x0 : St93) : Option (Int × Bool) :=
 (Option.bind (loopN (fun (s0 : Int × (List (Int × Int))) => (bif (decide (s0.1 < (x0.Locale_.Comps_.length : Int))) then (Option.bind (bif inR s0.1 x0.Locale_.Comps_.length then (Option.bind (loc_Short x0.Locale_.S_ (nth x0.Locale_.Comps_ s0.1)) fun y0 => (Option.bind (Option.bind (bif (!y0.2) then (some true) else (bif (decide (s0.1 > 0)) then (bif inR (IntKind.wrap .i64 (s0.1 - 1)) x0.Locale_.Comps_.length then (Option.bind (loc_rises ((nth x0.Locale_.Comps_ (IntKind.wrap .i64 (s0.1 - 1)))) (nth x0.Locale_.Comps_ s0.1)) fun y2 => (some (!y2))) else none) else (some false))) fun (s2 : Bool) => (bif s2 then (some (.inr (.inr (.inr (.inr (s0.1, false)))))) else (some (.inl ())))) (joinX fun (s5 : Unit) => (Option.bind (bif (!((mget (fun a b : Int => a == b) s0.2 ((nth x0.Locale_.Comps_ s0.1).Mag_)).isSome)) then (Option.bind (loc_Power (nth x0.Locale_.Comps_ s0.1) y0.1) fun y1 => (bif (mget (fun a b : Int => a == b) s0.2 ((nth x0.Locale_.Comps_ s0.1).Mag_)).isNone then (some (y1, (s0.2 ++ [(((nth x0.Locale_.Comps_ s0.1).Mag_), y1)]))) else none)) else (some (((mget (fun a b : Int => a == b) s0.2 ((nth x0.Locale_.Comps_ s0.1).Mag_)).getD 0), s0.2))) fun (s1 : Int × (List (Int × Int))) => (Option.bind (bif (!((mget (fun a b : Int => a == b) s0.2 ((nth x0.Locale_.Comps_ s0.1).Mag_)).isSome)) then (bif (decide (¬ ((nth x0.Locale_.Comps_ s0.1).Cat_) = 0)) then (some true) else (Option.bind (loc_Power (nth x0.Locale_.Comps_ s0.1) y0.1) fun y3 => (some (decide (¬ s1.1 = y3))))) else (Option.bind (loc_Power (nth x0.Locale_.Comps_ s0.1) y0.1) fun y4 => (some (decide (¬ s1.1 = y4))))) fun (s3 : Bool) => (bif s3 then (some (.inr (.inr (.inr (s0.1, false))))) else (some (.inl s1.2)))))))) else none) (joinX fun (s4 : (List (Int × Int))) => (some (.inl ((IntKind.wrap .i64 (s0.1 + 1)), s4))))) else (some (.inr (.inl ()))))) big (0, ([] : List (Int × Int)))) (joinX fun (s6 : Unit) => (some (90, (decide ((x0.Locale_.Comps_.length : Int) ≤ 90))))))
theorem loc_checker__compacts_ok {x0 : St93} {r : Int × Bool} (h : loc_checker__compacts x0 = some r) : SC Tryz.prog 57 [.agg (encSt93 x0)] [] (.tup [iL r.1, .bool r.2]) [] := by
 refine kFn (fn := Tryz.f57) (fun F hFn hFH hFD => ?_)
 unfold loc_checker__compacts at h
 refine kq (kq (kcX h (fun (s6 : Unit) => ([(1, .ptr 0 0), (2, iL 0), (3, .bool false)], [.box (encSt93 x0)])) (fun y5 hy0 h0 => ?_) (fun s6 h2 => ?_)))
 ·refine kq (kb 0 (kl (fun (s0 : Int × (List (Int × Int))) => ([(1, .ptr 0 0), (2, iL 0), (3, .bool false), (4, .mp 1), (14, lsv encSt25 3 x0.Locale_.Comps_), (15, iL (x0.Locale_.Comps_.length : Int)), (16, iL s0.1)], [.box (encSt93 x0), .map (mapL (fun k : Int => iL k) (fun k : Int => iL k) s0.2)])) hy0 [1, 2, 3, 4, 14, 15, 16] (fun s0 x1361 hs0 => kq (kS (kBT 17 hs0 (fun h3 => ?_) (fun h4 => ?_))))))
  ·refine kKN (kcX h3 (fun (s4 : (List (Int × Int))) => ([(1, .ptr 0 0), (2, iL 0), (3, .bool false), (4, .mp 1), (14, lsv encSt25 3 x0.Locale_.Comps_), (15, iL (x0.Locale_.Comps_.length : Int)), (16, iL s0.1)], [.box (encSt93 x0), .map (mapL (fun k : Int => iL k) (fun k : Int => iL k) s4)])) (fun y6 hy1 h1 => ?_) (fun s4 h5 => ?_))
   ·refine kb 1 (kn 1 (kIb 19 encSt25_len hy1 (fun h6 => kr 4 (kn 4 (kAb 26 h6 (fun _ => loc_Short_ok) (fun y0 h7 => kr 6 (kcX h7 (fun (s5 : Unit) => ([(1, .ptr 0 0), (2, iL 0), (3, .bool false), (4, .mp 1), (5, iL s0.1), (6, .ptr 2 0), (7, .ptr 3 0), (14, lsv encSt25 3 x0.Locale_.Comps_), (15, iL (x0.Locale_.Comps_.length : Int)), (16, iL s0.1)], [.box (encSt93 x0), .map (mapL (fun k : Int => iL k) (fun k : Int => iL k) s0.2), .box [iL ((nth x0.Locale_.Comps_ s0.1).Mag_), iL ((nth x0.Locale_.Comps_ s0.1).Cat_), .str ((nth x0.Locale_.Comps_ s0.1).Pat_)], .box (encSt32 y0.1)])) (fun y7 hy2 h8 => ?_) (fun s5 h9 => ?_))))))))
    ·refine kcN hy2 (fun (s2 : Bool) => ([(1, .ptr 0 0), (2, iL 0), (3, .bool false), (4, .mp 1), (5, iL s0.1), (6, .ptr 2 0), (7, .ptr 3 0), (14, lsv encSt25 3 x0.Locale_.Comps_), (15, iL (x0.Locale_.Comps_.length : Int)), (16, iL s0.1), (46, .bool s2)], [.box (encSt93 x0), .map (mapL (fun k : Int => iL k) (fun k : Int => iL k) s0.2), .box [iL ((nth x0.Locale_.Comps_ s0.1).Mag_), iL ((nth x0.Locale_.Comps_ s0.1).Cat_), .str ((nth x0.Locale_.Comps_ s0.1).Pat_)], .box (encSt32 y0.1)])) (fun s2 hy3 => ?_) (fun s2 h10 => ?_)
     ·refine kDr (kD 3 (kB 31 hy3 (fun h11 => ?_) (fun h12 => ?_)))
      ·exact kD 15 (kE (PJ.wk (Wk.sel (L2 := [(1, .ptr 0 0), (2, iL 0), (3, .bool false), (4, .mp 1), (5, iL s0.1), (6, .ptr 2 0), (7, .ptr 3 0), (14, lsv encSt25 3 x0.Locale_.Comps_), (15, iL (x0.Locale_.Comps_.length : Int)), (16, iL s0.1), (46, .bool true)]) (H2 := [.box (encSt93 x0), .map (mapL (fun k : Int => iL k) (fun k : Int => iL k) s0.2), .box [iL ((nth x0.Locale_.Comps_ s0.1).Mag_), iL ((nth x0.Locale_.Comps_ s0.1).Cat_), .str ((nth x0.Locale_.Comps_ s0.1).Pat_)], .box (encSt32 y0.1)]) 0 (by rw [hFH]; rfl) hFD [0, 1, 2, 3] (by kernel_rfl) (by simp only [List.map_cons, List.map_nil, rn_mapL (ek := (fun k : Int => iL k)) (ev := (fun k : Int => iL k)) (fun _ _ => rfl) (fun _ _ => rfl)]; kernel_rfl) (by decide) (by simp only [List.all_cons, List.all_nil, refs_mapL (ek := (fun k : Int => iL k)) (ev := (fun k : Int => iL k)) (fun _ _ => rfl) (fun _ _ => rfl)]; kernel_rfl) (by kernel_rfl) (by kernel_rfl) (by kernel_rfl)) (kNo h11 [1, 2, 3, 4, 5, 6, 7, 14, 15, 16, 46])))
      ·refine kD 3 (kB 34 h12 (fun h13 => ?_) (fun h14 => ?_))
       ·refine kD 5 ?_
        obtain ⟨hm, h15⟩ := asrt h13
        refine kJ 40 (tr2 := [([], []), ([], []), ([], []), ([], []), ([], []), ([], []), ([], []), ([], []), ([0, 1], []), ([], []), ([], []), ([], [])]) encSt25_len hm (kD 2 ?_)
        obtain ⟨y2, hy4, h16⟩ := bindS h15
        exact RJ.call0 (d := (some 43)) (f := 103) (args := [.agg [iL ((nth x0.Locale_.Comps_ (IntKind.wrap .i64 (s0.1 - 1))).Mag_), iL ((nth x0.Locale_.Comps_ (IntKind.wrap .i64 (s0.1 - 1))).Cat_), .str ((nth x0.Locale_.Comps_ (IntKind.wrap .i64 (s0.1 - 1))).Pat_)], .agg [iL ((nth x0.Locale_.Comps_ s0.1).Mag_), iL ((nth x0.Locale_.Comps_ s0.1).Cat_), .str ((nth x0.Locale_.Comps_ s0.1).Pat_)]]) (v := .bool y2) (tr2 := [([], []), ([], []), ([], []), ([], []), ([], []), ([], []), ([], []), ([], []), ([0, 1], []), ([], []), ([], []), ([], []), ([], []), ([4, 5], []), ([], [8, 9])]) (by kernel_rfl) (by kernel_rfl) (.cons (Le.refl _) (.cons (Le.refl _) .nil)) (loc_rises_ok hy4) (by kernel_rfl) (kD 3 (kE (PJ.wk (Wk.sel (L2 := [(1, .ptr 0 0), (2, iL 0), (3, .bool false), (4, .mp 1), (5, iL s0.1), (6, .ptr 2 0), (7, .ptr 3 0), (14, lsv encSt25 3 x0.Locale_.Comps_), (15, iL (x0.Locale_.Comps_.length : Int)), (16, iL s0.1), (46, .bool (!y2))]) (H2 := [.box (encSt93 x0), .map (mapL (fun k : Int => iL k) (fun k : Int => iL k) s0.2), .box [iL ((nth x0.Locale_.Comps_ s0.1).Mag_), iL ((nth x0.Locale_.Comps_ s0.1).Cat_), .str ((nth x0.Locale_.Comps_ s0.1).Pat_)], .box (encSt32 y0.1)]) 0 (by rw [hFH]; rfl) hFD [0, 1, 2, 3] (by kernel_rfl) (by simp only [List.map_cons, List.map_nil, rn_mapL (ek := (fun k : Int => iL k)) (ev := (fun k : Int => iL k)) (fun _ _ => rfl) (fun _ _ => rfl)]; kernel_rfl) (by decide) (by simp only [List.all_cons, List.all_nil, refs_mapL (ek := (fun k : Int => iL k)) (ev := (fun k : Int => iL k)) (fun _ _ => rfl) (fun _ _ => rfl)]; kernel_rfl) (by kernel_rfl) (by kernel_rfl) (by kernel_rfl)) (kNo h16 [1, 2, 3, 4, 5, 6, 7, 14, 15, 16, 46]))))
       ·exact kD 12 (kE (PJ.wk (Wk.sel (L2 := [(1, .ptr 0 0), (2, iL 0), (3, .bool false), (4, .mp 1), (5, iL s0.1), (6, .ptr 2 0), (7, .ptr 3 0), (14, lsv encSt25 3 x0.Locale_.Comps_), (15, iL (x0.Locale_.Comps_.length : Int)), (16, iL s0.1), (46, .bool false)]) (H2 := [.box (encSt93 x0), .map (mapL (fun k : Int => iL k) (fun k : Int => iL k) s0.2), .box [iL ((nth x0.Locale_.Comps_ s0.1).Mag_), iL ((nth x0.Locale_.Comps_ s0.1).Cat_), .str ((nth x0.Locale_.Comps_ s0.1).Pat_)], .box (encSt32 y0.1)]) 0 (by rw [hFH]; rfl) hFD [0, 1, 2, 3] (by kernel_rfl) (by simp only [List.map_cons, List.map_nil, rn_mapL (ek := (fun k : Int => iL k)) (ev := (fun k : Int => iL k)) (fun _ _ => rfl) (fun _ _ => rfl)]; kernel_rfl) (by decide) (by simp only [List.all_cons, List.all_nil, refs_mapL (ek := (fun k : Int => iL k)) (ev := (fun k : Int => iL k)) (fun _ _ => rfl) (fun _ _ => rfl)]; kernel_rfl) (by kernel_rfl) (by kernel_rfl) (by kernel_rfl)) (kNo h14 [1, 2, 3, 4, 5, 6, 7, 14, 15, 16, 46])))
     ·refine kBT 46 h10 (fun h17 => ?_) (fun h18 => ?_)
      ·refine kq (kX ?_)
       obtain rfl := oi h17
       have h19 := joinX_inr h8
       refine PJ.cutXr (fun e => nomatch e) (PJ.blockRet ?_)
       obtain rfl := oi h19
       have h20 := joinX_inr h1
       refine PJ.cutXr (fun e => nomatch e) ?_
       obtain rfl := oi h20
       refine PJ.loopOut (fun e => nomatch e) (fun he0 => ?_)
       have h21 := congrArg some he0
       refine PJ.blockRet ?_
       obtain rfl := oi h21
       have h22 := joinX_inr h0
       refine PJ.cutXr (fun e => nomatch e) ?_
       obtain rfl := oi h22
       exact kZ hFn hFH hFD
      ·exact kK (kXo h18 [1, 2, 3, 4, 5, 6, 7, 14, 15, 16])
    ·refine kn 3 (RJ.lookK (d := (some 52)) (i := 1) (ok := true) (tr2 := []) .i64 (fun k : Int => iL k) s0.2 ((nth x0.Locale_.Comps_ s0.1).Mag_) (0 : Int) (by kernel_rfl) (kr 5 (kcN h9 (fun (s1 : Int × (List (Int × Int))) => ([(1, .ptr 0 0), (2, iL 0), (3, .bool false), (4, .mp 1), (5, iL s0.1), (6, .ptr 2 0), (7, .ptr 3 0), (9, iL s1.1), (10, .bool ((mget (fun a b : Int => a == b) s0.2 ((nth x0.Locale_.Comps_ s0.1).Mag_)).isSome)), (14, lsv encSt25 3 x0.Locale_.Comps_), (15, iL (x0.Locale_.Comps_.length : Int)), (16, iL s0.1)], [.box (encSt93 x0), .map (mapL (fun k : Int => iL k) (fun k : Int => iL k) s1.2), .box [iL ((nth x0.Locale_.Comps_ s0.1).Mag_), iL ((nth x0.Locale_.Comps_ s0.1).Cat_), .str ((nth x0.Locale_.Comps_ s0.1).Pat_)], .box (encSt32 y0.1)])) (fun s1 hy5 => ?_) (fun s1 h23 => ?_))))
     ·refine kq (kBT 56 hy5 (fun h24 => ?_) (fun h25 => ?_))
      ·refine kn 2 (kAb 59 h24 (fun _ => loc_Power_ok) (fun y1 h26 => kr 1 (km 4 ?_)))
       obtain ⟨hm, h27⟩ := asrt h26
       exact RJ.insK (d := none) (i := 1) (sv := iL y1) (tr2 := []) (H2 := [.box (encSt93 x0), .map (mapL (fun k : Int => iL k) (fun k : Int => iL k) ((s0.2 ++ [(((nth x0.Locale_.Comps_ s0.1).Mag_), y1)]))), .box [iL ((nth x0.Locale_.Comps_ s0.1).Mag_), iL ((nth x0.Locale_.Comps_ s0.1).Cat_), .str ((nth x0.Locale_.Comps_ s0.1).Pat_)], .box (encSt32 y0.1)]) .i64 (fun k : Int => iL k) s0.2 ((nth x0.Locale_.Comps_ s0.1).Mag_) y1 (by kernel_rfl) rfl hm (by kernel_rfl) (kE (kNo h27 [1, 2, 3, 4, 5, 6, 7, 9, 10, 14, 15, 16]))
      ·exact kK (kNo h25 [1, 2, 3, 4, 5, 6, 7, 9, 10, 14, 15, 16])
     ·refine kcN h23 (fun (s3 : Bool) => ([(1, .ptr 0 0), (2, iL 0), (3, .bool false), (4, .mp 1), (5, iL s0.1), (14, lsv encSt25 3 x0.Locale_.Comps_), (15, iL (x0.Locale_.Comps_.length : Int)), (16, iL s0.1), (77, .bool s3)], [.box (encSt93 x0), .map (mapL (fun k : Int => iL k) (fun k : Int => iL k) s1.2)])) (fun s3 hy6 => ?_) (fun s3 h28 => ?_)
      ·refine km 3 (kB 66 hy6 (fun h29 => ?_) (fun h30 => ?_))
       ·refine kc 5 (kB 71 h29 (fun h31 => ?_) (fun h32 => ?_))
        ·exact ke 6 (PJ.wk (Wk.sel (L2 := [(1, .ptr 0 0), (2, iL 0), (3, .bool false), (4, .mp 1), (5, iL s0.1), (14, lsv encSt25 3 x0.Locale_.Comps_), (15, iL (x0.Locale_.Comps_.length : Int)), (16, iL s0.1), (77, .bool true)]) (H2 := [.box (encSt93 x0), .map (mapL (fun k : Int => iL k) (fun k : Int => iL k) s1.2)]) 0 (by rw [hFH]; rfl) hFD [0, 1] (by kernel_rfl) (by simp only [List.map_cons, List.map_nil, rn_mapL (ek := (fun k : Int => iL k)) (ev := (fun k : Int => iL k)) (fun _ _ => rfl) (fun _ _ => rfl)]; kernel_rfl) (by decide) (by simp only [List.all_cons, List.all_nil, refs_mapL (ek := (fun k : Int => iL k)) (ev := (fun k : Int => iL k)) (fun _ _ => rfl) (fun _ _ => rfl)]; kernel_rfl) (by kernel_rfl) (by kernel_rfl) (by kernel_rfl)) (kNo h31 [1, 2, 3, 4, 5, 14, 15, 16, 77]))
        ·exact kc 3 (kAb 75 h32 (fun _ => loc_Power_ok) (fun y3 h33 => ke 2 (PJ.wk (Wk.sel (L2 := [(1, .ptr 0 0), (2, iL 0), (3, .bool false), (4, .mp 1), (5, iL s0.1), (14, lsv encSt25 3 x0.Locale_.Comps_), (15, iL (x0.Locale_.Comps_.length : Int)), (16, iL s0.1), (77, .bool (decide (¬ s1.1 = y3)))]) (H2 := [.box (encSt93 x0), .map (mapL (fun k : Int => iL k) (fun k : Int => iL k) s1.2)]) 0 (by rw [hFH]; rfl) hFD [0, 1] (by kernel_rfl) (by simp only [List.map_cons, List.map_nil, rn_mapL (ek := (fun k : Int => iL k)) (ev := (fun k : Int => iL k)) (fun _ _ => rfl) (fun _ _ => rfl)]; kernel_rfl) (by decide) (by simp only [List.all_cons, List.all_nil, refs_mapL (ek := (fun k : Int => iL k)) (ev := (fun k : Int => iL k)) (fun _ _ => rfl) (fun _ _ => rfl)]; kernel_rfl) (by kernel_rfl) (by kernel_rfl) (by kernel_rfl)) (kNo h33 [1, 2, 3, 4, 5, 14, 15, 16, 77]))))
       ·exact kc 8 (kAb 75 h30 (fun _ => loc_Power_ok) (fun y4 h34 => ke 2 (PJ.wk (Wk.sel (L2 := [(1, .ptr 0 0), (2, iL 0), (3, .bool false), (4, .mp 1), (5, iL s0.1), (14, lsv encSt25 3 x0.Locale_.Comps_), (15, iL (x0.Locale_.Comps_.length : Int)), (16, iL s0.1), (77, .bool (decide (¬ s1.1 = y4)))]) (H2 := [.box (encSt93 x0), .map (mapL (fun k : Int => iL k) (fun k : Int => iL k) s1.2)]) 0 (by rw [hFH]; rfl) hFD [0, 1] (by kernel_rfl) (by simp only [List.map_cons, List.map_nil, rn_mapL (ek := (fun k : Int => iL k)) (ev := (fun k : Int => iL k)) (fun _ _ => rfl) (fun _ _ => rfl)]; kernel_rfl) (by decide) (by simp only [List.all_cons, List.all_nil, refs_mapL (ek := (fun k : Int => iL k)) (ev := (fun k : Int => iL k)) (fun _ _ => rfl) (fun _ _ => rfl)]; kernel_rfl) (by kernel_rfl) (by kernel_rfl) (by kernel_rfl)) (kNo h34 [1, 2, 3, 4, 5, 14, 15, 16, 77]))))
      ·refine kBT 77 h28 (fun h35 => ?_) (fun h36 => ?_)
       ·refine kq (kX (PJ.blockRet ?_))
        obtain rfl := oi h35
        have h37 := joinX_inr h1
        refine PJ.cutXr (fun e => nomatch e) ?_
        obtain rfl := oi h37
        refine PJ.loopOut (fun e => nomatch e) (fun he1 => ?_)
        have h38 := congrArg some he1
        refine PJ.blockRet ?_
        obtain rfl := oi h38
        have h39 := joinX_inr h0
        refine PJ.cutXr (fun e => nomatch e) ?_
        obtain rfl := oi h39
        exact kZ hFn hFH hFD
       ·exact kK (PJ.blockNormal (kXo h36 [1, 2, 3, 4, 14, 15, 16]))
   ·exact kM (kLo h5 [1, 2, 3, 4, 14, 15, 16])
  ·refine K.exit 0 (by kernel_rfl) (PJ.passExit ?_)
   obtain rfl := oi h4
   refine PJ.loopOut (fun e => nomatch e) (fun he2 => ?_)
   have h40 := congrArg some he2
   exact PJ.blockOut (kXW h40 hFH hFD [0])
 ·refine kS (kDr (kD 7 (kEN (kX ?_))))
  obtain rfl := oi h2
  exact kZ hFn hFH hFD
structure St144 where
 around_ : St124
 power_ : Int
 deriving Inhabited, DecidableEq
def encSt144 (x : St144) : List SV := [lsv (encI .i32) 1 x.around_.a0_.Pre_, lsv (encI .i32) 1 x.around_.a0_.Suf_, lsv (encI .i32) 1 x.around_.a1_.Pre_, lsv (encI .i32) 1 x.around_.a1_.Suf_, lsv (encI .i32) 1 x.around_.a2_.Pre_, lsv (encI .i32) 1 x.around_.a2_.Suf_, .int .i64 x.power_]
theorem encSt144_len (x : St144) : (encSt144 x).length = 7 := rfl
def loc_alike (x0 x1 : St144) : Option (Bool) :=
 (Option.bind (loopN (fun (s1 : Int) => (bif (decide (s1 < 3)) then (Option.bind (loopN (fun (s0 : Int) => (bif (decide (s0 < 3)) then (Option.bind (Option.bind (Option.bind (bif (decide ((minI s1 s0) = 0)) then (some ((decide ((maxI s1 s0) = 2)))) else (some false)) fun (s2 : Bool) => (bif s2 then (some (.inr (.inl ()))) else (some (.inl ())))) (joinX fun (s5 : Unit) => (Option.bind (bif (decide (¬ x0.power_ = x1.power_)) then (some true) else (some (((decide (s1 = 1)) != (decide (s0 = 1)))))) fun (s3 : Bool) => (Option.bind (bif s3 then (bif (decide (s1 = 0)) then (bif (decide (s0 = 0)) then (Option.bind (affix_Same x0.around_.a0_ x1.around_.a0_) fun y0 => (some y0)) else (bif (decide (s0 = 1)) then (Option.bind (affix_Same x0.around_.a0_ x1.around_.a1_) fun y1 => (some y1)) else (bif (decide (s0 = 2)) then (Option.bind (affix_Same x0.around_.a0_ x1.around_.a2_) fun y2 => (some y2)) else none))) else (bif (decide (s1 = 1)) then (bif (decide (s0 = 0)) then (Option.bind (affix_Same x0.around_.a1_ x1.around_.a0_) fun y3 => (some y3)) else (bif (decide (s0 = 1)) then (Option.bind (affix_Same x0.around_.a1_ x1.around_.a1_) fun y4 => (some y4)) else (bif (decide (s0 = 2)) then (Option.bind (affix_Same x0.around_.a1_ x1.around_.a2_) fun y5 => (some y5)) else none))) else (bif (decide (s1 = 2)) then (bif (decide (s0 = 0)) then (Option.bind (affix_Same x0.around_.a2_ x1.around_.a0_) fun y6 => (some y6)) else (bif (decide (s0 = 1)) then (Option.bind (affix_Same x0.around_.a2_ x1.around_.a1_) fun y7 => (some y7)) else (bif (decide (s0 = 2)) then (Option.bind (affix_Same x0.around_.a2_ x1.around_.a2_) fun y8 => (some y8)) else none))) else none))) else (some false)) fun (s4 : Bool) => (bif s4 then (some (.inr (.inr (.inr (.inr (.inr true)))))) else (some (.inl ()))))))) (joinX fun (s6 : Unit) => (some (.inl (IntKind.wrap .i64 (s0 + 1)))))) else (some (.inr (.inl ()))))) big 0) (joinX fun (s7 : Unit) => (some (.inl (IntKind.wrap .i64 (s1 + 1)))))) else (some (.inr (.inl ()))))) big 0) (joinX fun (s8 : Unit) => (some false)))
theorem loc_alike_ok {x0 x1 : St144} {r : Bool} (h : loc_alike x0 x1 = some r) : SC Tryz.prog 104 [.agg (encSt144 x0), .agg (encSt144 x1)] [] (.bool r) [] := by
 refine kFn (fn := Tryz.f104) (fun F hFn hFH hFD => ?_)
 unfold loc_alike at h
 refine kq (kcX h (fun (s8 : Unit) => ([(4, .bool false)], [])) (fun y9 hy0 h12 => ?_) (fun s8 h13 => ?_))
 ·refine kq (kb 0 (kl (fun (s1 : Int) => ([(2, .ptr 0 0), (3, .ptr 1 0), (4, .bool false), (8, iL s1)], [.box (encSt144 x0), .box (encSt144 x1)])) hy0 [2, 3, 4, 8] (fun s1 x8491 hs0 => kq (kS (kBT 9 hs0 (fun h14 => ?_) (fun h15 => ?_))))))
  ·refine kKN (kcX h14 (fun (s7 : Unit) => ([(2, .ptr 0 0), (3, .ptr 1 0), (4, .bool false), (8, iL s1)], [.box (encSt144 x0), .box (encSt144 x1)])) (fun y10 hy1 h16 => ?_) (fun s7 h17 => ?_))
   ·refine kb 1 (kq (kq (kb 2 (kl (fun (s0 : Int) => ([(2, .ptr 0 0), (3, .ptr 1 0), (4, .bool false), (5, iL s1), (8, iL s1), (11, iL s0)], [.box (encSt144 x0), .box (encSt144 x1)])) hy1 [2, 3, 4, 5, 8, 11] (fun s0 x10125 hs1 => kq (kS (kBT 12 hs1 (fun h18 => ?_) (fun h19 => ?_))))))))
    ·refine kKN (kcX h18 (fun (s6 : Unit) => ([(2, .ptr 0 0), (3, .ptr 1 0), (4, .bool false), (5, iL s1), (8, iL s1), (11, iL s0)], [.box (encSt144 x0), .box (encSt144 x1)])) (fun y11 hy2 h20 => ?_) (fun s6 h21 => ?_))
     ·refine kb 3 (kq (kcX hy2 (fun (s5 : Unit) => ([(2, .ptr 0 0), (3, .ptr 1 0), (4, .bool false), (5, iL s1), (6, iL s0), (8, iL s1), (11, iL s0)], [.box (encSt144 x0), .box (encSt144 x1)])) (fun y12 hy3 h22 => ?_) (fun s5 h23 => ?_)))
      ·refine kcN hy3 (fun (s2 : Bool) => ([(2, .ptr 0 0), (3, .ptr 1 0), (4, .bool false), (5, iL s1), (6, iL s0), (8, iL s1), (11, iL s0), (23, .bool s2)], [.box (encSt144 x0), .box (encSt144 x1)])) (fun s2 hy4 => ?_) (fun s2 h24 => ?_)
       ·refine km 5 (kB 18 hy4 (fun h25 => ?_) (fun h26 => ?_))
        ·exact ke 5 (kNo h25 [2, 3, 4, 5, 6, 8, 11, 23])
        ·exact ke 5 (kNo h26 [2, 3, 4, 5, 6, 8, 11, 23])
       ·refine kBT 23 h24 (fun h27 => ?_) (fun h28 => ?_)
        ·refine K.exit 3 (by kernel_rfl) ?_
         obtain rfl := oi h27
         have h29 := joinX_inr h22
         exact PJ.cutXr (fun e => nomatch e) (PJ.blockOut (kXo h29 [2, 3, 4, 5, 8, 11]))
        ·exact kK (kXo h28 [2, 3, 4, 5, 6, 8, 11])
      ·refine kcN h23 (fun (s3 : Bool) => ([(2, .ptr 0 0), (3, .ptr 1 0), (4, .bool false), (5, iL s1), (6, iL s0), (7, .bool s3), (8, iL s1), (11, iL s0)], [.box (encSt144 x0), .box (encSt144 x1)])) (fun s3 hy5 => ?_) (fun s3 h30 => ?_)
       ·refine km 6 (kB 29 hy5 (fun h31 => ?_) (fun h32 => ?_))
        ·exact ke 7 (kNo h31 [2, 3, 4, 5, 6, 7, 8, 11])
        ·exact ke 7 (kNo h32 [2, 3, 4, 5, 6, 7, 8, 11])
       ·refine kcN h30 (fun (s4 : Bool) => ([(2, .ptr 0 0), (3, .ptr 1 0), (4, .bool false), (5, iL s1), (8, iL s1), (11, iL s0), (47, .bool s4)], [.box (encSt144 x0), .box (encSt144 x1)])) (fun s4 hy6 => ?_) (fun s4 h33 => ?_)
        ·refine kDr (kD 2 (kB 37 hy6 (fun h0 => ?_) (fun h34 => ?_)))
         ·refine kD 2 ?_
          cases hb0 : (decide (s1 = 0))
          ·have h1 := condF hb0 h0
           cases hb1 : (decide (s1 = 1))
           ·have h2 := condF hb1 h1
            cases hb2 : (decide (s1 = 2))
            ·have h35 := condF hb2 h2
             cases h35
            ·have h3 := condT hb2 h2
             refine RJ.pin 38 (kd := .i64) (by kernel_rfl) (of_decide_eq_true hb2) (kD 4 ?_)
             cases hb3 : (decide (s0 = 0))
             ·have h4 := condF hb3 h3
              cases hb4 : (decide (s0 = 1))
              ·have h5 := condF hb4 h4
               cases hb5 : (decide (s0 = 2))
               ·have h36 := condF hb5 h5
                cases h36
               ·have h37 := condT hb5 h5
                refine RJ.pin 42 (kd := .i64) (by kernel_rfl) (of_decide_eq_true hb5) (kD 2 ?_)
                obtain ⟨y8, hy7, h38⟩ := bindS h37
                exact RJ.call0 (d := (some 46)) (f := 82) (args := [.agg (encSt63 x0.around_.a2_), .agg (encSt63 x1.around_.a2_)]) (v := .bool y8) (tr2 := [([], []), ([], []), ([], []), ([], []), ([], []), ([0, 1], []), ([], []), ([], []), ([], []), ([2, 3], []), ([], [4, 5])]) (by kernel_rfl) (by kernel_rfl) (.cons (Le.refl _) (.cons (Le.refl _) .nil)) (affix_Same_ok hy7) (by kernel_rfl) (kD 1 (kE (kNW h38 hFH hFD [0, 1])))
              ·have h39 := condT hb4 h4
               refine RJ.pin 42 (kd := .i64) (by kernel_rfl) (of_decide_eq_true hb4) (kD 2 ?_)
               obtain ⟨y7, hy8, h40⟩ := bindS h39
               exact RJ.call0 (d := (some 46)) (f := 82) (args := [.agg (encSt63 x0.around_.a2_), .agg (encSt63 x1.around_.a1_)]) (v := .bool y7) (tr2 := [([], []), ([], []), ([], []), ([], []), ([], []), ([0, 1], []), ([], []), ([], []), ([], []), ([2, 3], []), ([], [4, 5])]) (by kernel_rfl) (by kernel_rfl) (.cons (Le.refl _) (.cons (Le.refl _) .nil)) (affix_Same_ok hy8) (by kernel_rfl) (kD 1 (kE (kNW h40 hFH hFD [0, 1])))
             ·have h41 := condT hb3 h3
              refine RJ.pin 42 (kd := .i64) (by kernel_rfl) (of_decide_eq_true hb3) (kD 2 ?_)
              obtain ⟨y6, hy9, h42⟩ := bindS h41
              exact RJ.call0 (d := (some 46)) (f := 82) (args := [.agg (encSt63 x0.around_.a2_), .agg (encSt63 x1.around_.a0_)]) (v := .bool y6) (tr2 := [([], []), ([], []), ([], []), ([], []), ([], []), ([0, 1], []), ([], []), ([], []), ([], []), ([2, 3], []), ([], [4, 5])]) (by kernel_rfl) (by kernel_rfl) (.cons (Le.refl _) (.cons (Le.refl _) .nil)) (affix_Same_ok hy9) (by kernel_rfl) (kD 1 (kE (kNW h42 hFH hFD [0, 1])))
           ·have h6 := condT hb1 h1
            refine RJ.pin 38 (kd := .i64) (by kernel_rfl) (of_decide_eq_true hb1) (kD 4 ?_)
            cases hb6 : (decide (s0 = 0))
            ·have h7 := condF hb6 h6
             cases hb7 : (decide (s0 = 1))
             ·have h8 := condF hb7 h7
              cases hb8 : (decide (s0 = 2))
              ·have h43 := condF hb8 h8
               cases h43
              ·have h44 := condT hb8 h8
               refine RJ.pin 42 (kd := .i64) (by kernel_rfl) (of_decide_eq_true hb8) (kD 2 ?_)
               obtain ⟨y5, hy10, h45⟩ := bindS h44
               exact RJ.call0 (d := (some 46)) (f := 82) (args := [.agg (encSt63 x0.around_.a1_), .agg (encSt63 x1.around_.a2_)]) (v := .bool y5) (tr2 := [([], []), ([], []), ([], []), ([], []), ([], []), ([0, 1], []), ([], []), ([], []), ([], []), ([2, 3], []), ([], [4, 5])]) (by kernel_rfl) (by kernel_rfl) (.cons (Le.refl _) (.cons (Le.refl _) .nil)) (affix_Same_ok hy10) (by kernel_rfl) (kD 1 (kE (kNW h45 hFH hFD [0, 1])))
             ·have h46 := condT hb7 h7
              refine RJ.pin 42 (kd := .i64) (by kernel_rfl) (of_decide_eq_true hb7) (kD 2 ?_)
              obtain ⟨y4, hy11, h47⟩ := bindS h46
              exact RJ.call0 (d := (some 46)) (f := 82) (args := [.agg (encSt63 x0.around_.a1_), .agg (encSt63 x1.around_.a1_)]) (v := .bool y4) (tr2 := [([], []), ([], []), ([], []), ([], []), ([], []), ([0, 1], []), ([], []), ([], []), ([], []), ([2, 3], []), ([], [4, 5])]) (by kernel_rfl) (by kernel_rfl) (.cons (Le.refl _) (.cons (Le.refl _) .nil)) (affix_Same_ok hy11) (by kernel_rfl) (kD 1 (kE (kNW h47 hFH hFD [0, 1])))
            ·have h48 := condT hb6 h6
             refine RJ.pin 42 (kd := .i64) (by kernel_rfl) (of_decide_eq_true hb6) (kD 2 ?_)
             obtain ⟨y3, hy12, h49⟩ := bindS h48
             exact RJ.call0 (d := (some 46)) (f := 82) (args := [.agg (encSt63 x0.around_.a1_), .agg (encSt63 x1.around_.a0_)]) (v := .bool y3) (tr2 := [([], []), ([], []), ([], []), ([], []), ([], []), ([0, 1], []), ([], []), ([], []), ([], []), ([2, 3], []), ([], [4, 5])]) (by kernel_rfl) (by kernel_rfl) (.cons (Le.refl _) (.cons (Le.refl _) .nil)) (affix_Same_ok hy12) (by kernel_rfl) (kD 1 (kE (kNW h49 hFH hFD [0, 1])))
          ·have h9 := condT hb0 h0
           refine RJ.pin 38 (kd := .i64) (by kernel_rfl) (of_decide_eq_true hb0) (kD 4 ?_)
           cases hb9 : (decide (s0 = 0))
           ·have h10 := condF hb9 h9
            cases hb10 : (decide (s0 = 1))
            ·have h11 := condF hb10 h10
             cases hb11 : (decide (s0 = 2))
             ·have h50 := condF hb11 h11
              cases h50
             ·have h51 := condT hb11 h11
              refine RJ.pin 42 (kd := .i64) (by kernel_rfl) (of_decide_eq_true hb11) (kD 2 ?_)
              obtain ⟨y2, hy13, h52⟩ := bindS h51
              exact RJ.call0 (d := (some 46)) (f := 82) (args := [.agg (encSt63 x0.around_.a0_), .agg (encSt63 x1.around_.a2_)]) (v := .bool y2) (tr2 := [([], []), ([], []), ([], []), ([], []), ([], []), ([0, 1], []), ([], []), ([], []), ([], []), ([2, 3], []), ([], [4, 5])]) (by kernel_rfl) (by kernel_rfl) (.cons (Le.refl _) (.cons (Le.refl _) .nil)) (affix_Same_ok hy13) (by kernel_rfl) (kD 1 (kE (kNW h52 hFH hFD [0, 1])))
            ·have h53 := condT hb10 h10
             refine RJ.pin 42 (kd := .i64) (by kernel_rfl) (of_decide_eq_true hb10) (kD 2 ?_)
             obtain ⟨y1, hy14, h54⟩ := bindS h53
             exact RJ.call0 (d := (some 46)) (f := 82) (args := [.agg (encSt63 x0.around_.a0_), .agg (encSt63 x1.around_.a1_)]) (v := .bool y1) (tr2 := [([], []), ([], []), ([], []), ([], []), ([], []), ([0, 1], []), ([], []), ([], []), ([], []), ([2, 3], []), ([], [4, 5])]) (by kernel_rfl) (by kernel_rfl) (.cons (Le.refl _) (.cons (Le.refl _) .nil)) (affix_Same_ok hy14) (by kernel_rfl) (kD 1 (kE (kNW h54 hFH hFD [0, 1])))
           ·have h55 := condT hb9 h9
            refine RJ.pin 42 (kd := .i64) (by kernel_rfl) (of_decide_eq_true hb9) (kD 2 ?_)
            obtain ⟨y0, hy15, h56⟩ := bindS h55
            exact RJ.call0 (d := (some 46)) (f := 82) (args := [.agg (encSt63 x0.around_.a0_), .agg (encSt63 x1.around_.a0_)]) (v := .bool y0) (tr2 := [([], []), ([], []), ([], []), ([], []), ([], []), ([0, 1], []), ([], []), ([], []), ([], []), ([2, 3], []), ([], [4, 5])]) (by kernel_rfl) (by kernel_rfl) (.cons (Le.refl _) (.cons (Le.refl _) .nil)) (affix_Same_ok hy15) (by kernel_rfl) (kD 1 (kE (kNW h56 hFH hFD [0, 1])))
         ·exact kD 10 (kE (kNW h34 hFH hFD [0, 1]))
        ·refine kBT 47 h33 (fun h57 => ?_) (fun h58 => ?_)
         ·refine kq (kX (PJ.blockRet ?_))
          obtain rfl := oi h57
          have h59 := joinX_inr h20
          refine PJ.cutXr (fun e => nomatch e) ?_
          obtain rfl := oi h59
          refine PJ.loopOut (fun e => nomatch e) (fun he0 => ?_)
          have h60 := congrArg some he0
          refine PJ.blockRet (PJ.blockRet ?_)
          obtain rfl := oi h60
          have h61 := joinX_inr h16
          refine PJ.cutXr (fun e => nomatch e) ?_
          obtain rfl := oi h61
          refine PJ.loopOut (fun e => nomatch e) (fun he1 => ?_)
          have h62 := congrArg some he1
          refine PJ.blockRet ?_
          obtain rfl := oi h62
          have h63 := joinX_inr h12
          refine PJ.cutXr (fun e => nomatch e) ?_
          obtain rfl := oi h63
          exact kZ hFn hFH hFD
         ·exact kK (PJ.blockNormal (kXo h58 [2, 3, 4, 5, 8, 11]))
     ·exact kM (kLo h21 [2, 3, 4, 5, 8, 11])
    ·refine K.exit 2 (by kernel_rfl) (PJ.passExit ?_)
     obtain rfl := oi h19
     refine PJ.loopOut (fun e => nomatch e) (fun he2 => ?_)
     have h64 := congrArg some he2
     exact PJ.blockOut (PJ.blockNormal (kXo h64 [2, 3, 4, 8]))
   ·exact kM (kLo h17 [2, 3, 4, 8])
  ·refine K.exit 0 (by kernel_rfl) (PJ.passExit ?_)
   obtain rfl := oi h15
   refine PJ.loopOut (fun e => nomatch e) (fun he3 => ?_)
   have h65 := congrArg some he3
   exact PJ.blockOut (kXW h65 hFH hFD [])
 ·refine kq (kX ?_)
  obtain rfl := oi h13
  exact kZ hFn hFH hFD
def loc_checker__confused (x0 : St93) : Option (Int × Bool) :=
 (Option.bind (loc_Pattern x0.Locale_.S_ 0 x0.Locale_.Pats_.a0_) fun y4 => (Option.bind (loc_around x0.Locale_.S_ y4.1 ([] : List Int)) fun y3 => (Option.bind (loopN (fun (s0 : Int × (List St144)) => (bif (decide (s0.1 < (x0.Locale_.Comps_.length : Int))) then (Option.bind (bif inR s0.1 x0.Locale_.Comps_.length then (Option.bind (loc_Short x0.Locale_.S_ (nth x0.Locale_.Comps_ s0.1)) fun y2 => (Option.bind (loc_around x0.Locale_.S_ y2.1 ([] : List Int)) fun y0 => (Option.bind (loc_Power (nth x0.Locale_.Comps_ s0.1) y2.1) fun y1 => (bif room (s0.2.length + ([(⟨y0, y1⟩ : St144)] : List St144).length) then (loopN (fun (s1 : Int) => (bif (decide (s1 < ((((s0.2 ++ ([(⟨y0, y1⟩ : St144)] : List St144))).length : Int)))) then (bif inR s1 ((s0.2 ++ ([(⟨y0, y1⟩ : St144)] : List St144))).length then (bif inR s1 ((s0.2 ++ ([(⟨y0, y1⟩ : St144)] : List St144))).length then (bif inR (IntKind.wrap .i64 (s0.1 + 1)) ((s0.2 ++ ([(⟨y0, y1⟩ : St144)] : List St144))).length then (bif inR (IntKind.wrap .i64 (s0.1 + 1)) ((s0.2 ++ ([(⟨y0, y1⟩ : St144)] : List St144))).length then (Option.bind (loc_alike ((⟨(⟨(((nth ((s0.2 ++ ([(⟨y0, y1⟩ : St144)] : List St144))) s1).around_).a0_), (((nth ((s0.2 ++ ([(⟨y0, y1⟩ : St144)] : List St144))) s1).around_).a1_), (((nth ((s0.2 ++ ([(⟨y0, y1⟩ : St144)] : List St144))) s1).around_).a2_)⟩ : St124), (nth ((s0.2 ++ ([(⟨y0, y1⟩ : St144)] : List St144))) s1).power_⟩ : St144)) ((⟨(⟨(((nth ((s0.2 ++ ([(⟨y0, y1⟩ : St144)] : List St144))) (IntKind.wrap .i64 (s0.1 + 1))).around_).a0_), (((nth ((s0.2 ++ ([(⟨y0, y1⟩ : St144)] : List St144))) (IntKind.wrap .i64 (s0.1 + 1))).around_).a1_), (((nth ((s0.2 ++ ([(⟨y0, y1⟩ : St144)] : List St144))) (IntKind.wrap .i64 (s0.1 + 1))).around_).a2_)⟩ : St124), (nth ((s0.2 ++ ([(⟨y0, y1⟩ : St144)] : List St144))) (IntKind.wrap .i64 (s0.1 + 1))).power_⟩ : St144))) fun y5 => (bif y5 then (some (.inr (.inr (.inr (.inr (s0.1, false)))))) else (some (.inl (IntKind.wrap .i64 (s1 + 1)))))) else none) else none) else none) else none) else (some (.inr (.inl ((s0.2 ++ ([(⟨y0, y1⟩ : St144)] : List St144)))))))) big 0) else none)))) else none) (joinX fun (s2 : (List St144)) => (some (.inl ((IntKind.wrap .i64 (s0.1 + 1)), s2))))) else (some (.inr (.inl ()))))) big (0, ([(⟨y3, 0⟩ : St144)] : List St144))) (joinX fun (s3 : Unit) => (some (0, true))))))
theorem loc_checker__confused_ok {x0 : St93} {r : Int × Bool} (h : loc_checker__confused x0 = some r) : SC Tryz.prog 58 [.agg (encSt93 x0)] [] (.tup [iL r.1, .bool r.2]) [] := by
 refine kFn (fn := Tryz.f58) (fun F hFn hFH hFD => ?_)
 unfold loc_checker__confused at h
 refine kq (kn 7 (kAb 21 h (fun _ => loc_Pattern_ok) (fun y4 h0 => kr 6 (kn 4 ?_))))
 obtain ⟨y3, hy0, h1⟩ := bindS h0
 refine RJ.call0 (d := (some 28)) (f := 80) (args := [.agg (encSt22 x0.Locale_.S_), .agg (encSt32 y4.1), .nl]) (v := .agg (encSt124 y3)) (tr2 := []) (by kernel_rfl) (by kernel_rfl) (.cons (Le.refl _) (.cons (Le.refl _) (.cons (Le.nl _) .nil))) (loc_around_ok hy0) (by kernel_rfl) (kr 3 (kcX h1 (fun (s3 : Unit) => ([(2, iL 0), (3, .bool false)], [])) (fun y6 hy1 h2 => ?_) (fun s3 h3 => ?_)))
 ·refine kq (kb 0 (J.wk (Wk.sel (L2 := [(1, .ptr 0 0), (2, iL 0), (3, .bool false), (6, .vc 1), (33, lsv encSt25 3 x0.Locale_.Comps_), (34, iL (x0.Locale_.Comps_.length : Int)), (35, iL 0)]) (H2 := [.box (encSt93 x0), vecL encSt144 7 145 ([(⟨y3, 0⟩ : St144)] : List St144)]) 0 (by rw [hFH]; rfl) hFD [0, 2] (by kernel_rfl) (by kernel_rfl) (by decide) (by kernel_rfl) (by kernel_rfl) (by kernel_rfl) (by kernel_rfl)) (kl (fun (s0 : Int × (List St144)) => ([(1, .ptr 0 0), (2, iL 0), (3, .bool false), (6, .vc 1), (33, lsv encSt25 3 x0.Locale_.Comps_), (34, iL (x0.Locale_.Comps_.length : Int)), (35, iL s0.1)], [.box (encSt93 x0), vecL encSt144 7 145 s0.2])) hy1 [1, 2, 3, 6, 33, 34, 35] (fun s0 x837 hs0 => kq (kS (kBT 36 hs0 (fun h4 => ?_) (fun h5 => ?_)))))))
  ·refine kKN (kcX h4 (fun (s2 : (List St144)) => ([(1, .ptr 0 0), (2, iL 0), (3, .bool false), (6, .vc 1), (33, lsv encSt25 3 x0.Locale_.Comps_), (34, iL (x0.Locale_.Comps_.length : Int)), (35, iL s0.1)], [.box (encSt93 x0), vecL encSt144 7 145 s2])) (fun y7 hy2 h6 => ?_) (fun s2 h7 => ?_))
   ·refine kb 1 (kn 1 (kIb 38 encSt25_len hy2 (fun h8 => kr 4 (kn 4 (kAb 45 h8 (fun _ => loc_Short_ok) (fun y2 h9 => kr 6 (kS (kDr (kD 5 ?_)))))))))
    obtain ⟨y0, hy3, h10⟩ := bindS h9
    refine RJ.call0 (d := (some 53)) (f := 80) (args := [.agg (encSt22 x0.Locale_.S_), .agg (encSt32 y2.1), .nl]) (v := .agg (encSt124 y0)) (tr2 := [([], []), ([], []), ([], []), ([0, 1], []), ([6, 7], []), ([], [8, 9])]) (by kernel_rfl) (by kernel_rfl) (.cons (Le.refl _) (.cons (Le.refl _) (.cons (Le.nl _) .nil))) (loc_around_ok hy3) (by kernel_rfl) (kD 2 ?_)
    obtain ⟨y1, hy4, h11⟩ := bindS h10
    refine RJ.call0 (d := (some 56)) (f := 18) (args := [.agg [iL ((nth x0.Locale_.Comps_ s0.1).Mag_), iL ((nth x0.Locale_.Comps_ s0.1).Cat_), .str ((nth x0.Locale_.Comps_ s0.1).Pat_)], .agg (encSt32 y2.1)]) (v := iL y1) (tr2 := [([], []), ([], []), ([], []), ([0, 1], []), ([6, 7], []), ([], [8, 9]), ([4, 5], []), ([6, 7], []), ([], [10, 11])]) (by kernel_rfl) (by kernel_rfl) (.cons (Le.refl _) (.cons (Le.refl _) .nil)) (loc_Power_ok hy4) (by kernel_rfl) (kD 2 ?_)
    obtain ⟨hm, h12⟩ := asrt h11
    refine RJ.rel (d := (some 59)) (ef := ⟨.vc 7, [1, 6], [(1, .gone), (7, .vec (s0.2.length + ([(⟨y0, y1⟩ : St144)] : List St144).length) 7 145 (s0.2.flatMap encSt144 ++ ([(⟨y0, y1⟩ : St144)] : List St144).flatMap encSt144))]⟩) (ef' := ⟨.vc 7, [1, 6], [(1, .gone), (7, vecL encSt144 7 145 (s0.2 ++ ([(⟨y0, y1⟩ : St144)] : List St144)))]⟩) (c := room (s0.2.length + ([(⟨y0, y1⟩ : St144)] : List St144).length)) (tr2 := [([], []), ([], []), ([], []), ([0, 1], []), ([6, 7], []), ([], [8, 9]), ([4, 5], []), ([6, 7], []), ([], [10, 11]), ([], []), ([], [12, 13, 12, 13]), ([2, 3, 12, 13], [2, 3, 14, 15, 14, 15])]) (H2 := [.box (encSt93 x0), .gone, .box [iL ((nth x0.Locale_.Comps_ s0.1).Mag_), iL ((nth x0.Locale_.Comps_ s0.1).Cat_), .str ((nth x0.Locale_.Comps_ s0.1).Pat_)], .box (encSt32 y2.1), .res, .res, vecL encSt144 7 145 ([(⟨y0, y1⟩ : St144)] : List St144), vecL encSt144 7 145 ((s0.2 ++ ([(⟨y0, y1⟩ : St144)] : List St144)))]) (by kernel_rfl) hm (fun hc => N.app) (by kernel_rfl) (kD 1 (kEN (kq (kb 2 (J.wk (Wk.sel (L2 := [(1, .ptr 0 0), (2, iL 0), (3, .bool false), (6, .vc 1), (7, iL s0.1), (33, lsv encSt25 3 x0.Locale_.Comps_), (34, iL (x0.Locale_.Comps_.length : Int)), (35, iL s0.1), (60, .vc 1), (61, iL ((((s0.2 ++ ([(⟨y0, y1⟩ : St144)] : List St144))).length : Int))), (62, iL 0)]) (H2 := [.box (encSt93 x0), vecL encSt144 7 145 ((s0.2 ++ ([(⟨y0, y1⟩ : St144)] : List St144)))]) 0 (by rw [hFH]; rfl) hFD [0, 7] (by kernel_rfl) (by kernel_rfl) (by decide) (by kernel_rfl) (by kernel_rfl) (by kernel_rfl) (by kernel_rfl)) (kl (fun (s1 : Int) => ([(1, .ptr 0 0), (2, iL 0), (3, .bool false), (6, .vc 1), (7, iL s0.1), (33, lsv encSt25 3 x0.Locale_.Comps_), (34, iL (x0.Locale_.Comps_.length : Int)), (35, iL s0.1), (60, .vc 1), (61, iL ((((s0.2 ++ ([(⟨y0, y1⟩ : St144)] : List St144))).length : Int))), (62, iL s1)], [.box (encSt93 x0), vecL encSt144 7 145 ((s0.2 ++ ([(⟨y0, y1⟩ : St144)] : List St144)))])) h12 [1, 2, 3, 6, 7, 33, 34, 35, 60, 61, 62] (fun s1 x978 hs1 => kq (kS (kBT 63 hs1 (fun h13 => ?_) (fun h14 => ?_))))))))))
    ·refine kKN (kS (kb 3 (kSR ?_)))
     obtain ⟨hm, h15⟩ := asrt h13
     refine kQ 64 (.ptr 1 ((s1 : Int).toNat * 7)) [1] (tr2 := []) hm ?_
     obtain ⟨hm, h16⟩ := asrt h15
     refine RJ.loadS (d := (some 65)) (i := 1) (enc := encSt144) (k := 7) (xs := ((s0.2 ++ ([(⟨y0, y1⟩ : St144)] : List St144)))) (j := s1) (tr2 := []) (by kernel_rfl) encSt144_len hm (kr 2 (kS (kDr (kD 4 ?_))))
     obtain ⟨hm, h17⟩ := asrt h16
     refine kQ 70 (.ptr 1 (((IntKind.wrap .i64 (s0.1 + 1)) : Int).toNat * 7)) [1] (tr2 := [([4, 5], []), ([], []), ([], []), ([], []), ([3], [])]) hm ?_
     obtain ⟨hm, h18⟩ := asrt h17
     refine RJ.loadS (d := (some 71)) (i := 1) (enc := encSt144) (k := 7) (xs := ((s0.2 ++ ([(⟨y0, y1⟩ : St144)] : List St144)))) (j := (IntKind.wrap .i64 (s0.1 + 1))) (tr2 := [([4, 5], []), ([], []), ([], []), ([], []), ([3], []), ([2, 3], [])]) (by kernel_rfl) encSt144_len hm ?_
     obtain ⟨y5, hy5, h19⟩ := bindS h18
     refine RJ.call0 (d := (some 72)) (f := 104) (args := [.agg [lR ((((nth ((s0.2 ++ ([(⟨y0, y1⟩ : St144)] : List St144))) s1).around_).a0_).Pre_), lR ((((nth ((s0.2 ++ ([(⟨y0, y1⟩ : St144)] : List St144))) s1).around_).a0_).Suf_), lR ((((nth ((s0.2 ++ ([(⟨y0, y1⟩ : St144)] : List St144))) s1).around_).a1_).Pre_), lR ((((nth ((s0.2 ++ ([(⟨y0, y1⟩ : St144)] : List St144))) s1).around_).a1_).Suf_), lR ((((nth ((s0.2 ++ ([(⟨y0, y1⟩ : St144)] : List St144))) s1).around_).a2_).Pre_), lR ((((nth ((s0.2 ++ ([(⟨y0, y1⟩ : St144)] : List St144))) s1).around_).a2_).Suf_), iL ((nth ((s0.2 ++ ([(⟨y0, y1⟩ : St144)] : List St144))) s1).power_)], .agg [lR ((((nth ((s0.2 ++ ([(⟨y0, y1⟩ : St144)] : List St144))) (IntKind.wrap .i64 (s0.1 + 1))).around_).a0_).Pre_), lR ((((nth ((s0.2 ++ ([(⟨y0, y1⟩ : St144)] : List St144))) (IntKind.wrap .i64 (s0.1 + 1))).around_).a0_).Suf_), lR ((((nth ((s0.2 ++ ([(⟨y0, y1⟩ : St144)] : List St144))) (IntKind.wrap .i64 (s0.1 + 1))).around_).a1_).Pre_), lR ((((nth ((s0.2 ++ ([(⟨y0, y1⟩ : St144)] : List St144))) (IntKind.wrap .i64 (s0.1 + 1))).around_).a1_).Suf_), lR ((((nth ((s0.2 ++ ([(⟨y0, y1⟩ : St144)] : List St144))) (IntKind.wrap .i64 (s0.1 + 1))).around_).a2_).Pre_), lR ((((nth ((s0.2 ++ ([(⟨y0, y1⟩ : St144)] : List St144))) (IntKind.wrap .i64 (s0.1 + 1))).around_).a2_).Suf_), iL ((nth ((s0.2 ++ ([(⟨y0, y1⟩ : St144)] : List St144))) (IntKind.wrap .i64 (s0.1 + 1))).power_)]]) (v := .bool y5) (tr2 := [([4, 5], []), ([], []), ([], []), ([], []), ([3], []), ([2, 3], []), ([], [6, 7])]) (by kernel_rfl) (by kernel_rfl) (.cons (Le.refl _) (.cons (Le.refl _) .nil)) (loc_alike_ok hy5) (by kernel_rfl) (kEN (kBT 72 h19 (fun h20 => ?_) (fun h21 => ?_)))
     ·refine kq (kX (PJ.blockRet (PJ.passRet ?_)))
      obtain rfl := oi h20
      refine PJ.loopOut (fun e => nomatch e) (fun he0 => ?_)
      have h22 := congrArg some he0
      refine PJ.blockRet (PJ.blockRet ?_)
      obtain rfl := oi h22
      have h23 := joinX_inr h6
      refine PJ.cutXr (fun e => nomatch e) ?_
      obtain rfl := oi h23
      refine PJ.loopOut (fun e => nomatch e) (fun he1 => ?_)
      have h24 := congrArg some he1
      refine PJ.blockRet ?_
      obtain rfl := oi h24
      have h25 := joinX_inr h2
      refine PJ.cutXr (fun e => nomatch e) ?_
      obtain rfl := oi h25
      exact kZ hFn hFH hFD
     ·exact kK (PJ.blockNormal (PJ.next (kM (kLW h21 hFH hFD [0, 1]))))
    ·refine K.exit 2 (by kernel_rfl) (PJ.passExit ?_)
     obtain rfl := oi h14
     refine PJ.loopOut (fun e => nomatch e) (fun he2 => ?_)
     have h26 := congrArg some he2
     exact PJ.blockOut (PJ.blockNormal (kXo h26 [1, 2, 3, 6, 33, 34, 35]))
   ·exact kM (kLo h7 [1, 2, 3, 6, 33, 34, 35])
  ·refine K.exit 0 (by kernel_rfl) (PJ.passExit ?_)
   obtain rfl := oi h5
   refine PJ.loopOut (fun e => nomatch e) (fun he3 => ?_)
   have h27 := congrArg some he3
   exact PJ.blockOut (kXW h27 hFH hFD [])
 ·refine kq (kX ?_)
  obtain rfl := oi h3
  exact kZ hFn hFH hFD
def loc_Check (x0 : St46) : Option (Int × Int × Int) :=
 (Option.bind (loopN (fun (s0 : Int) => (bif (decide (s0 < 7)) then (bif (decide (s0 = 0)) then (Option.bind (loc_checker__tag (⟨x0⟩ : St93)) fun y0 => (bif (!y0.2) then (some (.inr (.inr ((IntKind.wrap .i64 (0 + 1)), y0.1, 8)))) else (some (.inl (IntKind.wrap .i64 (0 + 1)))))) else (bif (decide (s0 = 1)) then (Option.bind (loc_checker__signs (⟨x0⟩ : St93)) fun y1 => (bif (!y1.2) then (some (.inr (.inr ((IntKind.wrap .i64 (1 + 1)), y1.1, 8)))) else (some (.inl (IntKind.wrap .i64 (1 + 1)))))) else (bif (decide (s0 = 2)) then (Option.bind (loc_checker__patterns (⟨x0⟩ : St93)) fun y2 => (bif (!y2.2) then (some (.inr (.inr ((IntKind.wrap .i64 (2 + 1)), y2.1, 8)))) else (some (.inl (IntKind.wrap .i64 (2 + 1)))))) else (bif (decide (s0 = 3)) then (Option.bind (loc_checker__rules (⟨x0⟩ : St93)) fun y3 => (bif (!y3.2) then (some (.inr (.inr ((IntKind.wrap .i64 (3 + 1)), y3.1, 8)))) else (some (.inl (IntKind.wrap .i64 (3 + 1)))))) else (bif (decide (s0 = 4)) then (Option.bind (loc_checker__currencies (⟨x0⟩ : St93)) fun y4 => (bif (!y4.2) then (some (.inr (.inr ((IntKind.wrap .i64 (4 + 1)), y4.1, 8)))) else (some (.inl (IntKind.wrap .i64 (4 + 1)))))) else (bif (decide (s0 = 5)) then (Option.bind (loc_checker__compacts (⟨x0⟩ : St93)) fun y5 => (bif (!y5.2) then (some (.inr (.inr ((IntKind.wrap .i64 (5 + 1)), y5.1, 8)))) else (some (.inl (IntKind.wrap .i64 (5 + 1)))))) else (bif (decide (s0 = 6)) then (Option.bind (loc_checker__confused (⟨x0⟩ : St93)) fun y6 => (bif (!y6.2) then (some (.inr (.inr ((IntKind.wrap .i64 (6 + 1)), y6.1, 8)))) else (some (.inl (IntKind.wrap .i64 (6 + 1)))))) else none))))))) else (some (.inr (.inl ()))))) big 0) (joinX fun (s1 : Unit) => (some (0, 0, 0))))
theorem loc_Check_ok {x0 : St46} {r : Int × Int × Int} (h : loc_Check x0 = some r) : SC Tryz.prog 23 [.agg (encSt46 x0)] [] (.tup [iL r.1, iL r.2.1, iL r.2.2]) [] := by
 refine kFn (fn := Tryz.f23) (fun F hFn hFH hFD => ?_)
 unfold loc_Check at h
 refine kq (kq (kq (kcX h (fun (s1 : Unit) => ([(2, iL 0), (3, iL 0), (4, iL 0)], [])) (fun y7 hy0 h0 => ?_) (fun s1 h8 => ?_))))
 ·refine kq (kb 0 (J.wk (Wk.sel (L2 := [(2, iL 0), (3, iL 0), (4, iL 0), (28, .agg [.fn (.func 52) [.agg (encSt46 x0)] [], .fn (.func 53) [.agg (encSt46 x0)] [], .fn (.func 54) [.agg (encSt46 x0)] [], .fn (.func 55) [.agg (encSt46 x0)] [], .fn (.func 56) [.agg (encSt46 x0)] [], .fn (.func 57) [.agg (encSt46 x0)] [], .fn (.func 58) [.agg (encSt46 x0)] []]), (29, iL 0)]) (H2 := []) 0 (by rw [hFH]; rfl) hFD [] (by kernel_rfl) (by kernel_rfl) (by decide) (by kernel_rfl) (by kernel_rfl) (by kernel_rfl) (by kernel_rfl)) (kl (fun (s0 : Int) => ([(2, iL 0), (3, iL 0), (4, iL 0), (28, .agg [.fn (.func 52) [.agg (encSt46 x0)] [], .fn (.func 53) [.agg (encSt46 x0)] [], .fn (.func 54) [.agg (encSt46 x0)] [], .fn (.func 55) [.agg (encSt46 x0)] [], .fn (.func 56) [.agg (encSt46 x0)] [], .fn (.func 57) [.agg (encSt46 x0)] [], .fn (.func 58) [.agg (encSt46 x0)] []]), (29, iL s0)], [])) hy0 [2, 3, 4, 28, 29] (fun s0 x306 hs0 => kq (kS (kBT 30 hs0 (fun h1 => ?_) (fun h9 => ?_)))))))
  ·refine kKN (kS (kb 1 (kn 1 ?_)))
   cases hb0 : (decide (s0 = 0))
   ·have h2 := condF hb0 h1
    cases hb1 : (decide (s0 = 1))
    ·have h3 := condF hb1 h2
     cases hb2 : (decide (s0 = 2))
     ·have h4 := condF hb2 h3
      cases hb3 : (decide (s0 = 3))
      ·have h5 := condF hb3 h4
       cases hb4 : (decide (s0 = 4))
       ·have h6 := condF hb4 h5
        cases hb5 : (decide (s0 = 5))
        ·have h7 := condF hb5 h6
         cases hb6 : (decide (s0 = 6))
         ·have h10 := condF hb6 h7
          cases h10
         ·have h11 := condT hb6 h7
          refine RJ.pin 29 (kd := .i64) (by kernel_rfl) (of_decide_eq_true hb6) (RJ.pin 31 (kd := .i64) (by kernel_rfl) (of_decide_eq_true hb6) (kr 3 (kn 1 (kAb 35 h11 (fun _ => loc_checker__confused_ok) (fun y6 h12 => kr 5 (kq (kBT 39 h12 (fun h13 => ?_) (fun h14 => ?_))))))))
          ·refine kq (kX (PJ.blockRet (PJ.passRet ?_)))
           obtain rfl := oi h13
           refine PJ.loopOut (fun e => nomatch e) (fun he0 => ?_)
           have h15 := congrArg some he0
           refine PJ.blockRet ?_
           obtain rfl := oi h15
           have h16 := joinX_inr h0
           refine PJ.cutXr (fun e => nomatch e) ?_
           obtain rfl := oi h16
           exact kZ hFn hFH hFD
          ·exact kK (PJ.blockNormal (PJ.next (kM (kLo h14 [2, 3, 4, 28, 29]))))
        ·have h17 := condT hb5 h6
         refine RJ.pin 29 (kd := .i64) (by kernel_rfl) (of_decide_eq_true hb5) (RJ.pin 31 (kd := .i64) (by kernel_rfl) (of_decide_eq_true hb5) (kr 3 (kn 1 (kAb 35 h17 (fun _ => loc_checker__compacts_ok) (fun y5 h18 => kr 5 (kq (kBT 39 h18 (fun h19 => ?_) (fun h20 => ?_))))))))
         ·refine kq (kX (PJ.blockRet (PJ.passRet ?_)))
          obtain rfl := oi h19
          refine PJ.loopOut (fun e => nomatch e) (fun he1 => ?_)
          have h21 := congrArg some he1
          refine PJ.blockRet ?_
          obtain rfl := oi h21
          have h22 := joinX_inr h0
          refine PJ.cutXr (fun e => nomatch e) ?_
          obtain rfl := oi h22
          exact kZ hFn hFH hFD
         ·exact kK (PJ.blockNormal (PJ.next (kM (kLo h20 [2, 3, 4, 28, 29]))))
       ·have h23 := condT hb4 h5
        refine RJ.pin 29 (kd := .i64) (by kernel_rfl) (of_decide_eq_true hb4) (RJ.pin 31 (kd := .i64) (by kernel_rfl) (of_decide_eq_true hb4) (kr 3 (kn 1 (kAb 35 h23 (fun _ => loc_checker__currencies_ok) (fun y4 h24 => kr 5 (kq (kBT 39 h24 (fun h25 => ?_) (fun h26 => ?_))))))))
        ·refine kq (kX (PJ.blockRet (PJ.passRet ?_)))
         obtain rfl := oi h25
         refine PJ.loopOut (fun e => nomatch e) (fun he2 => ?_)
         have h27 := congrArg some he2
         refine PJ.blockRet ?_
         obtain rfl := oi h27
         have h28 := joinX_inr h0
         refine PJ.cutXr (fun e => nomatch e) ?_
         obtain rfl := oi h28
         exact kZ hFn hFH hFD
        ·exact kK (PJ.blockNormal (PJ.next (kM (kLo h26 [2, 3, 4, 28, 29]))))
      ·have h29 := condT hb3 h4
       refine RJ.pin 29 (kd := .i64) (by kernel_rfl) (of_decide_eq_true hb3) (RJ.pin 31 (kd := .i64) (by kernel_rfl) (of_decide_eq_true hb3) (kr 3 (kn 1 (kAb 35 h29 (fun _ => loc_checker__rules_ok) (fun y3 h30 => kr 5 (kq (kBT 39 h30 (fun h31 => ?_) (fun h32 => ?_))))))))
       ·refine kq (kX (PJ.blockRet (PJ.passRet ?_)))
        obtain rfl := oi h31
        refine PJ.loopOut (fun e => nomatch e) (fun he3 => ?_)
        have h33 := congrArg some he3
        refine PJ.blockRet ?_
        obtain rfl := oi h33
        have h34 := joinX_inr h0
        refine PJ.cutXr (fun e => nomatch e) ?_
        obtain rfl := oi h34
        exact kZ hFn hFH hFD
       ·exact kK (PJ.blockNormal (PJ.next (kM (kLo h32 [2, 3, 4, 28, 29]))))
     ·have h35 := condT hb2 h3
      refine RJ.pin 29 (kd := .i64) (by kernel_rfl) (of_decide_eq_true hb2) (RJ.pin 31 (kd := .i64) (by kernel_rfl) (of_decide_eq_true hb2) (kr 3 (kn 1 (kAb 35 h35 (fun _ => loc_checker__patterns_ok) (fun y2 h36 => kr 5 (kq (kBT 39 h36 (fun h37 => ?_) (fun h38 => ?_))))))))
      ·refine kq (kX (PJ.blockRet (PJ.passRet ?_)))
       obtain rfl := oi h37
       refine PJ.loopOut (fun e => nomatch e) (fun he4 => ?_)
       have h39 := congrArg some he4
       refine PJ.blockRet ?_
       obtain rfl := oi h39
       have h40 := joinX_inr h0
       refine PJ.cutXr (fun e => nomatch e) ?_
       obtain rfl := oi h40
       exact kZ hFn hFH hFD
      ·exact kK (PJ.blockNormal (PJ.next (kM (kLo h38 [2, 3, 4, 28, 29]))))
    ·have h41 := condT hb1 h2
     refine RJ.pin 29 (kd := .i64) (by kernel_rfl) (of_decide_eq_true hb1) (RJ.pin 31 (kd := .i64) (by kernel_rfl) (of_decide_eq_true hb1) (kr 3 (kn 1 (kAb 35 h41 (fun _ => loc_checker__signs_ok) (fun y1 h42 => kr 5 (kq (kBT 39 h42 (fun h43 => ?_) (fun h44 => ?_))))))))
     ·refine kq (kX (PJ.blockRet (PJ.passRet ?_)))
      obtain rfl := oi h43
      refine PJ.loopOut (fun e => nomatch e) (fun he5 => ?_)
      have h45 := congrArg some he5
      refine PJ.blockRet ?_
      obtain rfl := oi h45
      have h46 := joinX_inr h0
      refine PJ.cutXr (fun e => nomatch e) ?_
      obtain rfl := oi h46
      exact kZ hFn hFH hFD
     ·exact kK (PJ.blockNormal (PJ.next (kM (kLo h44 [2, 3, 4, 28, 29]))))
   ·have h47 := condT hb0 h1
    refine RJ.pin 29 (kd := .i64) (by kernel_rfl) (of_decide_eq_true hb0) (RJ.pin 31 (kd := .i64) (by kernel_rfl) (of_decide_eq_true hb0) (kr 3 (kn 1 (kAb 35 h47 (fun _ => loc_checker__tag_ok) (fun y0 h48 => kr 5 (kq (kBT 39 h48 (fun h49 => ?_) (fun h50 => ?_))))))))
    ·refine kq (kX (PJ.blockRet (PJ.passRet ?_)))
     obtain rfl := oi h49
     refine PJ.loopOut (fun e => nomatch e) (fun he6 => ?_)
     have h51 := congrArg some he6
     refine PJ.blockRet ?_
     obtain rfl := oi h51
     have h52 := joinX_inr h0
     refine PJ.cutXr (fun e => nomatch e) ?_
     obtain rfl := oi h52
     exact kZ hFn hFH hFD
    ·exact kK (PJ.blockNormal (PJ.next (kM (kLo h50 [2, 3, 4, 28, 29]))))
  ·refine K.exit 0 (by kernel_rfl) (PJ.passExit ?_)
   obtain rfl := oi h9
   refine PJ.loopOut (fun e => nomatch e) (fun he7 => ?_)
   have h53 := congrArg some he7
   exact PJ.blockOut (kXo h53 [2, 3, 4])
 ·refine kq (kX ?_)
  obtain rfl := oi h8
  exact kZ hFn hFH hFD
def api_Rule_ (x0 x1 : List St91) : Option (Bool) :=
 (bif (decide (¬ (x0.length : Int) = (x1.length : Int))) then none else (Option.bind (loopN (fun (s0 : Int) => (bif (decide (s0 < (x0.length : Int))) then (bif inR s0 x0.length then (bif inR s0 x1.length then (bif (!((decide (((nth x0 s0).Cat_) = ((nth x1 s0).Cat_))) && ((((nth x0 s0).Text_) == ((nth x1 s0).Text_)) && true))) then none else (some (.inl (IntKind.wrap .i64 (s0 + 1))))) else none) else none) else (some (.inr ())))) big 0) fun (s1 : Unit) => (some true)))
theorem api_Rule__ok {x0 x1 : List St91} {r : Bool} (h : api_Rule_ x0 x1 = some r) : SC Tryz.prog 69 [lsv encSt91 2 x0, lsv encSt91 2 x1] [] (.bool r) [] := by
 refine kFn (fn := Tryz.f69) (fun F hFn hFH hFD => ?_)
 unfold api_Rule_ at h
 refine kq (kS (kq (cTF 10 h (fun h0 => kKN (kcN h0 (fun (s1 : Unit) => ([(4, .bool false)], [])) (fun s1 hy0 => ?_) (fun s1 h1 => ?_))))))
 ·refine kq (kb 0 (kl (fun (s0 : Int) => ([(0, lsv encSt91 2 x0), (1, lsv encSt91 2 x1), (4, .bool false), (12, iL (x0.length : Int)), (13, iL s0)], [])) hy0 [0, 1, 4, 12, 13] (fun s0 x64 hs0 => kq (kS (kBT 14 hs0 (fun h2 => ?_) (fun h3 => ?_))))))
  ·refine kKN (kS (kb 1 (kq (kS (kDr (kD 2 ?_))))))
   obtain ⟨hm, h4⟩ := asrt h2
   refine kJ 18 (tr2 := [([], []), ([], []), ([], [])]) encSt91_len hm (kD 3 ?_)
   obtain ⟨hm, h5⟩ := asrt h4
   exact kJ 22 (tr2 := [([], []), ([], []), ([], []), ([], []), ([], []), ([], []), ([], [])]) encSt91_len hm (kD 2 (kEN (cTF 24 h5 (fun h6 => kK (PJ.blockNormal (PJ.next (kM (kLo h6 [0, 1, 4, 12, 13]))))))))
  ·refine K.exit 0 (by kernel_rfl) (PJ.passExit ?_)
   obtain rfl := oi h3
   refine PJ.loopOut (fun e => nomatch e) (fun he0 => ?_)
   have h7 := congrArg some he0
   exact PJ.blockOut (kNo h7 [4])
 ·refine kq (kX ?_)
  obtain rfl := oi h1
  exact kZ hFn hFH hFD
def api_Cur_ (x0 x1 : List St58) : Option (Bool) :=
 (bif (decide (¬ (x0.length : Int) = (x1.length : Int))) then none else (Option.bind (loopN (fun (s0 : Int) => (bif (decide (s0 < (x0.length : Int))) then (bif inR s0 x0.length then (bif inR s0 x1.length then (bif (!((((nth x0 s0).Code_) == ((nth x1 s0).Code_)) && ((((nth x0 s0).Sign_) == ((nth x1 s0).Sign_)) && ((decide (((nth x0 s0).Digits_) = ((nth x1 s0).Digits_))) && true)))) then none else (some (.inl (IntKind.wrap .i64 (s0 + 1))))) else none) else none) else (some (.inr ())))) big 0) fun (s1 : Unit) => (some true)))
theorem api_Cur__ok {x0 x1 : List St58} {r : Bool} (h : api_Cur_ x0 x1 = some r) : SC Tryz.prog 70 [lsv encSt58 3 x0, lsv encSt58 3 x1] [] (.bool r) [] := by
 refine kFn (fn := Tryz.f70) (fun F hFn hFH hFD => ?_)
 unfold api_Cur_ at h
 refine kq (kS (kq (cTF 10 h (fun h0 => kKN (kcN h0 (fun (s1 : Unit) => ([(4, .bool false)], [])) (fun s1 hy0 => ?_) (fun s1 h1 => ?_))))))
 ·refine kq (kb 0 (kl (fun (s0 : Int) => ([(0, lsv encSt58 3 x0), (1, lsv encSt58 3 x1), (4, .bool false), (12, iL (x0.length : Int)), (13, iL s0)], [])) hy0 [0, 1, 4, 12, 13] (fun s0 x64 hs0 => kq (kS (kBT 14 hs0 (fun h2 => ?_) (fun h3 => ?_))))))
  ·refine kKN (kS (kb 1 (kq (kS (kDr (kD 2 ?_))))))
   obtain ⟨hm, h4⟩ := asrt h2
   refine kJ 18 (tr2 := [([], []), ([], []), ([], [])]) encSt58_len hm (kD 3 ?_)
   obtain ⟨hm, h5⟩ := asrt h4
   exact kJ 22 (tr2 := [([], []), ([], []), ([], []), ([], []), ([], []), ([], []), ([], [])]) encSt58_len hm (kD 2 (kEN (cTF 24 h5 (fun h6 => kK (PJ.blockNormal (PJ.next (kM (kLo h6 [0, 1, 4, 12, 13]))))))))
  ·refine K.exit 0 (by kernel_rfl) (PJ.passExit ?_)
   obtain rfl := oi h3
   refine PJ.loopOut (fun e => nomatch e) (fun he0 => ?_)
   have h7 := congrArg some he0
   exact PJ.blockOut (kNo h7 [4])
 ·refine kq (kX ?_)
  obtain rfl := oi h1
  exact kZ hFn hFH hFD
def api_Comp_ (x0 x1 : List St25) : Option (Bool) :=
 (bif (decide (¬ (x0.length : Int) = (x1.length : Int))) then none else (Option.bind (loopN (fun (s0 : Int) => (bif (decide (s0 < (x0.length : Int))) then (bif inR s0 x0.length then (bif inR s0 x1.length then (bif (!((decide (((nth x0 s0).Mag_) = ((nth x1 s0).Mag_))) && ((decide (((nth x0 s0).Cat_) = ((nth x1 s0).Cat_))) && ((((nth x0 s0).Pat_) == ((nth x1 s0).Pat_)) && true)))) then none else (some (.inl (IntKind.wrap .i64 (s0 + 1))))) else none) else none) else (some (.inr ())))) big 0) fun (s1 : Unit) => (some true)))
theorem api_Comp__ok {x0 x1 : List St25} {r : Bool} (h : api_Comp_ x0 x1 = some r) : SC Tryz.prog 71 [lsv encSt25 3 x0, lsv encSt25 3 x1] [] (.bool r) [] := by
 refine kFn (fn := Tryz.f71) (fun F hFn hFH hFD => ?_)
 unfold api_Comp_ at h
 refine kq (kS (kq (cTF 10 h (fun h0 => kKN (kcN h0 (fun (s1 : Unit) => ([(4, .bool false)], [])) (fun s1 hy0 => ?_) (fun s1 h1 => ?_))))))
 ·refine kq (kb 0 (kl (fun (s0 : Int) => ([(0, lsv encSt25 3 x0), (1, lsv encSt25 3 x1), (4, .bool false), (12, iL (x0.length : Int)), (13, iL s0)], [])) hy0 [0, 1, 4, 12, 13] (fun s0 x64 hs0 => kq (kS (kBT 14 hs0 (fun h2 => ?_) (fun h3 => ?_))))))
  ·refine kKN (kS (kb 1 (kq (kS (kDr (kD 2 ?_))))))
   obtain ⟨hm, h4⟩ := asrt h2
   refine kJ 18 (tr2 := [([], []), ([], []), ([], [])]) encSt25_len hm (kD 3 ?_)
   obtain ⟨hm, h5⟩ := asrt h4
   exact kJ 22 (tr2 := [([], []), ([], []), ([], []), ([], []), ([], []), ([], []), ([], [])]) encSt25_len hm (kD 2 (kEN (cTF 24 h5 (fun h6 => kK (PJ.blockNormal (PJ.next (kM (kLo h6 [0, 1, 4, 12, 13]))))))))
  ·refine K.exit 0 (by kernel_rfl) (PJ.passExit ?_)
   obtain rfl := oi h3
   refine PJ.loopOut (fun e => nomatch e) (fun he0 => ?_)
   have h7 := congrArg some he0
   exact PJ.blockOut (kNo h7 [4])
 ·refine kq (kX ?_)
  obtain rfl := oi h1
  exact kZ hFn hFH hFD
def loc_Same (x0 x1 : St46) : Option (Bool) :=
 (Option.bind (bif (x0.Tag_ == x1.Tag_) then (bif ((decide (x0.S_.Zero_ = x1.S_.Zero_)) && ((decide (x0.S_.Dec_ = x1.S_.Dec_)) && ((decide (x0.S_.Group_ = x1.S_.Group_)) && ((decide (x0.S_.Minus_ = x1.S_.Minus_)) && ((decide (x0.S_.Plus_ = x1.S_.Plus_)) && ((decide (x0.S_.Percent_ = x1.S_.Percent_)) && ((decide (x0.S_.Exp_ = x1.S_.Exp_)) && true))))))) then (bif ((x0.Pats_.a0_ == x1.Pats_.a0_) && ((x0.Pats_.a1_ == x1.Pats_.a1_) && ((x0.Pats_.a2_ == x1.Pats_.a2_) && ((x0.Pats_.a3_ == x1.Pats_.a3_) && true)))) then (Option.bind (api_Rule_ x0.Rules_ x1.Rules_) fun y0 => (bif y0 then (Option.bind (api_Cur_ x0.Curs_ x1.Curs_) fun y1 => (bif y1 then (Option.bind (api_Comp_ x0.Comps_ x1.Comps_) fun y2 => (some y2)) else none)) else none)) else none) else none) else none) fun (s0 : Bool) => (some s0))
theorem loc_Same_ok {x0 x1 : St46} {r : Bool} (h : loc_Same x0 x1 = some r) : SC Tryz.prog 34 [.agg (encSt46 x0), .agg (encSt46 x1)] [] (.bool r) [] := by
 refine kFn (fn := Tryz.f34) (fun F hFn hFH hFD => ?_)
 unfold loc_Same at h
 refine kq (kcN h (fun (s0 : Bool) => ([(4, .bool s0)], [])) (fun s0 hy0 => ?_) (fun s0 h0 => ?_))
 ·exact km 6 (cFR 10 hy0 (fun h1 => kc 7 (cFR 17 h1 (fun h2 => kc 7 (cFR 24 h2 (fun h3 => kc 4 (kAb 29 h3 (fun _ => api_Rule__ok) (fun y0 h4 => kc 2 (cFR 31 h4 (fun h5 => kc 4 (kAb 36 h5 (fun _ => api_Cur__ok) (fun y1 h6 => kc 2 (cFR 38 h6 (fun h7 => RJ.seg 4 [4, 38, 40, 42] (L2 := [(4, .bool false), (38, .bool true), (40, lsv encSt25 3 x0.Comps_), (42, lsv encSt25 3 x1.Comps_)]) (H2 := [.box (encSt46 x0), .box (encSt46 x1)]) (by kernel_rfl) (kAb 43 h7 (fun _ => api_Comp__ok) (fun y2 h8 => ke 2 (kNW h8 hFH hFD [])))))))))))))))))
 ·refine kX ?_
  obtain rfl := oi h0
  exact kZ hFn hFH hFD
def exerguelaw15_shown  : Option (Bool) :=
 (Option.bind exerguelaw15_latin fun y4 => (Option.bind (loc_Pattern y4 1 ([37, 48] : List UInt8)) fun y2 => (Option.bind exerguelaw15_latin fun y5 => (Option.bind (loc_Pattern y5 0 ([37, 48] : List UInt8)) fun y3 => (Option.bind exerguelaw15_small fun y6 => (Option.bind (loc_Check y6) fun y0 => (Option.bind (loc_Check (⟨[], (⟨0, 0, 0, 0, 0, 0, 0⟩ : St22), (⟨[], [], [], []⟩ : St42), ([] : List St91), ([] : List St58), ([] : List St25)⟩ : St46)) fun y1 => (Option.bind (bif y2.2 then (bif (!y3.2) then (bif (decide (y0.1 = 0)) then (bif (decide (y0.2.1 = 0)) then (bif (decide (y0.2.2 = 0)) then (bif (decide (y1.2.2 = 8)) then (Option.bind (loc_Tag ([101, 110] : List UInt8)) fun y7 => (bif y7 then (Option.bind exerguelaw15_small fun y8 => (Option.bind exerguelaw15_small fun y9 => (Option.bind (loc_Same y8 y9) fun y10 => (some y10)))) else none)) else none) else none) else none) else none) else none) else none) fun (s0 : Bool) => (some s0)))))))))
theorem exerguelaw15_shown_ok  {r : Bool} (h : exerguelaw15_shown = some r) : SC Tryz.prog 9 [] [] (.bool r) [] := by
 refine kFn (fn := Tryz.f9) (fun F hFn hFH hFD => ?_)
 unfold exerguelaw15_shown at h
 refine kq (kSR (kAb 12 h (fun _ => exerguelaw15_latin_ok) (fun y4 h0 => kAb 13 h0 (fun _ => loc_Pattern_ok) (fun y2 h1 => kr 6 (kSR (kAb 17 h1 (fun _ => exerguelaw15_latin_ok) (fun y5 h2 => kAb 18 h2 (fun _ => loc_Pattern_ok) (fun y3 h3 => kr 6 (kSR (kAb 22 h3 (fun _ => exerguelaw15_small_ok) (fun y6 h4 => kAb 23 h4 (fun _ => loc_Check_ok) (fun y0 h5 => kr 7 (kn 1 ?_)))))))))))))
 obtain ⟨y1, hy0, h6⟩ := bindS h5
 refine RJ.call0 (d := (some 29)) (f := 23) (args := [.agg (q12 [] 0 0 0 0 0 0 0 [] [] [] [] [.nl, .nl, .nl])]) (v := .tup [iL y1.1, iL y1.2.1, iL y1.2.2]) (tr2 := []) (by kernel_rfl) (by kernel_rfl) (.cons (Le.agg (.cons (Le.refl _) (.cons (Le.refl _) (.cons (Le.refl _) (.cons (Le.refl _) (.cons (Le.refl _) (.cons (Le.refl _) (.cons (Le.refl _) (.cons (Le.refl _) (.cons (Le.refl _) (.cons (Le.refl _) (.cons (Le.refl _) (.cons (Le.refl _) (.cons (Le.nl _) (.cons (Le.nl _) (.cons (Le.nl _) .nil)))))))))))))))) .nil) (loc_Check_ok hy0) (by kernel_rfl) (kr 7 (kcN h6 (fun (s0 : Bool) => ([(0, .bool s0)], [])) (fun s0 hy1 => ?_) (fun s0 h7 => ?_)))
 ·exact km 2 (cFR 34 hy1 (fun h8 => kc 4 (cFR 38 h8 (fun h9 => RJ.seg 4 [0, 6, 7, 10, 42] (L2 := [(0, .bool false), (6, iL y0.2.1), (7, iL y0.2.2), (10, iL y1.2.2), (42, .bool (decide (y0.1 = 0)))]) (H2 := [.box (encSt32 y2.1), .box (encSt32 y3.1)]) (by kernel_rfl) (cFR 42 h9 (fun h10 => kc 4 (cFR 46 h10 (fun h11 => kc 4 (cFR 50 h11 (fun h12 => kc 4 (cFR 54 h12 (fun h13 => kAb 55 h13 (fun _ => loc_Tag_ok) (fun y7 h14 => kc 2 (cFR 57 h14 (fun h15 => kAb 58 h15 (fun _ => exerguelaw15_small_ok) (fun y8 h16 => kAb 59 h16 (fun _ => exerguelaw15_small_ok) (fun y9 h17 => kAb 60 h17 (fun _ => loc_Same_ok) (fun y10 h18 => ke 2 (kNW h18 hFH hFD [])))))))))))))))))))
 ·refine kX ?_
  obtain rfl := oi h7
  exact kZ hFn hFH hFD
def exergueref15_Small (x0 : St46) : Option (Bool) :=
 (Option.bind (loopN (fun (s0 : Int × Int) => (bif (decide (s0.2 < 4)) then (bif (decide (s0.2 = 0)) then (some (.inl ((IntKind.wrap .i64 (s0.1 + (x0.Pats_.a0_.length : Int))), (IntKind.wrap .i64 (0 + 1))))) else (bif (decide (s0.2 = 1)) then (some (.inl ((IntKind.wrap .i64 (s0.1 + (x0.Pats_.a1_.length : Int))), (IntKind.wrap .i64 (1 + 1))))) else (bif (decide (s0.2 = 2)) then (some (.inl ((IntKind.wrap .i64 (s0.1 + (x0.Pats_.a2_.length : Int))), (IntKind.wrap .i64 (2 + 1))))) else (bif (decide (s0.2 = 3)) then (some (.inl ((IntKind.wrap .i64 (s0.1 + (x0.Pats_.a3_.length : Int))), (IntKind.wrap .i64 (3 + 1))))) else none)))) else (some (.inr s0.1)))) big ((x0.Tag_.length : Int), 0)) fun (s4 : Int) => (Option.bind (Option.bind (bif (decide ((x0.Rules_.length : Int) > 8)) then (some true) else (bif (decide ((x0.Curs_.length : Int) > 105)) then (some true) else (some ((decide ((x0.Comps_.length : Int) > 95)))))) fun (s5 : Bool) => (bif s5 then (some (.inr false)) else (some (.inl ())))) (joinX fun (s9 : Unit) => (Option.bind (loopN (fun (s2 : Int × Int) => (bif (decide (s2.2 < (x0.Rules_.length : Int))) then (bif inR s2.2 x0.Rules_.length then (some (.inl ((IntKind.wrap .i64 (s2.1 + ((((nth x0.Rules_ s2.2).Text_).length : Int)))), (IntKind.wrap .i64 (s2.2 + 1))))) else none) else (some (.inr s2.1)))) big (s4, 0)) fun (s6 : Int) => (Option.bind (loopN (fun (s1 : Int × Int) => (bif (decide (s1.2 < (x0.Curs_.length : Int))) then (bif inR s1.2 x0.Curs_.length then (bif inR s1.2 x0.Curs_.length then (some (.inl ((IntKind.wrap .i64 (((IntKind.wrap .i64 (s1.1 + ((((nth x0.Curs_ s1.2).Code_).length : Int))))) + ((((nth x0.Curs_ s1.2).Sign_).length : Int)))), (IntKind.wrap .i64 (s1.2 + 1))))) else none) else none) else (some (.inr s1.1)))) big (s6, 0)) fun (s7 : Int) => (Option.bind (loopN (fun (s3 : Int × Int) => (bif (decide (s3.2 < (x0.Comps_.length : Int))) then (bif inR s3.2 x0.Comps_.length then (some (.inl ((IntKind.wrap .i64 (s3.1 + ((((nth x0.Comps_ s3.2).Pat_).length : Int)))), (IntKind.wrap .i64 (s3.2 + 1))))) else none) else (some (.inr s3.1)))) big (s7, 0)) fun (s8 : Int) => (some (decide (s8 ≤ 6000)))))))))
theorem exergueref15_Small_ok {x0 : St46} {r : Bool} (h : exergueref15_Small x0 = some r) : SC Tryz.prog 22 [.agg (encSt46 x0)] [] (.bool r) [] := by
 refine kFn (fn := Tryz.f22) (fun F hFn hFH hFD => ?_)
 unfold exergueref15_Small at h
 refine kq (kq (kcN h (fun (s4 : Int) => ([(1, .ptr 0 0), (2, .bool false), (3, iL s4)], [.box (encSt46 x0)])) (fun s4 hy0 => ?_) (fun s4 h4 => ?_)))
 ·refine kq (kb 0 (kl (fun (s0 : Int × Int) => ([(1, .ptr 0 0), (2, .bool false), (3, iL s0.1), (4, iL s0.2)], [.box (encSt46 x0)])) hy0 [1, 2, 3, 4] (fun s0 x72 hs0 => kS (kq (kBT 12 hs0 (fun h0 => ?_) (fun h5 => ?_))))))
  ·refine kKN (kS (kb 1 (km 3 ?_)))
   cases hb0 : (decide (s0.2 = 0))
   ·have h1 := condF hb0 h0
    cases hb1 : (decide (s0.2 = 1))
    ·have h2 := condF hb1 h1
     cases hb2 : (decide (s0.2 = 2))
     ·have h3 := condF hb2 h2
      cases hb3 : (decide (s0.2 = 3))
      ·have h6 := condF hb3 h3
       cases h6
      ·have h7 := condT hb3 h3
       exact RJ.pin 16 (kd := .i64) (by kernel_rfl) (of_decide_eq_true hb3) (RJ.pin 4 (kd := .i64) (by kernel_rfl) (of_decide_eq_true hb3) (ke 5 (PJ.blockNormal (PJ.next (kM (kLo h7 [1, 2, 3, 4]))))))
     ·have h8 := condT hb2 h2
      exact RJ.pin 16 (kd := .i64) (by kernel_rfl) (of_decide_eq_true hb2) (RJ.pin 4 (kd := .i64) (by kernel_rfl) (of_decide_eq_true hb2) (ke 5 (PJ.blockNormal (PJ.next (kM (kLo h8 [1, 2, 3, 4]))))))
    ·have h9 := condT hb1 h1
     exact RJ.pin 16 (kd := .i64) (by kernel_rfl) (of_decide_eq_true hb1) (RJ.pin 4 (kd := .i64) (by kernel_rfl) (of_decide_eq_true hb1) (ke 5 (PJ.blockNormal (PJ.next (kM (kLo h9 [1, 2, 3, 4]))))))
   ·have h10 := condT hb0 h0
    exact RJ.pin 16 (kd := .i64) (by kernel_rfl) (of_decide_eq_true hb0) (RJ.pin 4 (kd := .i64) (by kernel_rfl) (of_decide_eq_true hb0) (ke 5 (PJ.blockNormal (PJ.next (kM (kLo h10 [1, 2, 3, 4]))))))
  ·refine K.exit 0 (by kernel_rfl) (PJ.passExit ?_)
   obtain rfl := oi h5
   refine PJ.loopOut (fun e => nomatch e) (fun he0 => ?_)
   have h11 := congrArg some he0
   exact PJ.blockOut (kNo h11 [1, 2, 3])
 ·refine kcX h4 (fun (s9 : Unit) => ([(1, .ptr 0 0), (2, .bool false), (3, iL s4)], [.box (encSt46 x0)])) (fun y0 hy1 h12 => ?_) (fun s9 h13 => ?_)
  ·refine kcN hy1 (fun (s5 : Bool) => ([(1, .ptr 0 0), (2, .bool false), (3, iL s4), (37, .bool s5)], [.box (encSt46 x0)])) (fun s5 hy2 => ?_) (fun s5 h14 => ?_)
   ·refine km 5 (kB 26 hy2 (fun h15 => ?_) (fun h16 => ?_))
    ·exact ke 11 (kNo h15 [1, 2, 3, 37])
    ·refine kc 6 (kB 32 h16 (fun h17 => ?_) (fun h18 => ?_))
     ·exact ke 5 (kNo h17 [1, 2, 3, 37])
     ·exact ke 5 (kNo h18 [1, 2, 3, 37])
   ·refine kBT 37 h14 (fun h19 => ?_) (fun h20 => ?_)
    ·refine kq (kX ?_)
     obtain rfl := oi h19
     have h21 := joinX_inr h12
     refine PJ.cutXr (fun e => nomatch e) ?_
     obtain rfl := oi h21
     exact kZ hFn hFH hFD
    ·exact kK (kXo h20 [1, 2, 3])
  ·refine kcN h13 (fun (s6 : Int) => ([(1, .ptr 0 0), (2, .bool false), (3, iL s6)], [.box (encSt46 x0)])) (fun s6 hy3 => ?_) (fun s6 h22 => ?_)
   ·refine kq (kb 2 (kl (fun (s2 : Int × Int) => ([(1, .ptr 0 0), (2, .bool false), (3, iL s2.1), (5, iL s2.2)], [.box (encSt46 x0)])) hy3 [1, 2, 3, 5] (fun s2 x177 hs1 => kS (kq (kBT 42 hs1 (fun h23 => ?_) (fun h24 => ?_))))))
    ·exact kKN (kS (kb 3 (km 4 (kIb 49 encSt91_len h23 (fun h25 => ke 5 (PJ.blockNormal (PJ.next (kM (kLo h25 [1, 2, 3, 5])))))))))
    ·refine K.exit 2 (by kernel_rfl) (PJ.passExit ?_)
     obtain rfl := oi h24
     refine PJ.loopOut (fun e => nomatch e) (fun he1 => ?_)
     have h26 := congrArg some he1
     exact PJ.blockOut (kNo h26 [1, 2, 3])
   ·refine kcN h22 (fun (s7 : Int) => ([(1, .ptr 0 0), (2, .bool false), (3, iL s7)], [.box (encSt46 x0)])) (fun s7 hy4 => ?_) (fun s7 h27 => ?_)
    ·refine kq (kb 4 (kl (fun (s1 : Int × Int) => ([(1, .ptr 0 0), (2, .bool false), (3, iL s1.1), (6, iL s1.2)], [.box (encSt46 x0)])) hy4 [1, 2, 3, 6] (fun s1 x229 hs2 => kS (kq (kBT 58 hs2 (fun h28 => ?_) (fun h29 => ?_))))))
     ·refine kKN (kS (kb 5 (kDr (kD 4 ?_))))
      obtain ⟨hm, h30⟩ := asrt h28
      refine kJ 65 (tr2 := [([], []), ([], []), ([0, 1], []), ([], []), ([], [])]) encSt58_len hm (kD 7 ?_)
      obtain ⟨hm, h31⟩ := asrt h30
      exact kJ 73 (tr2 := [([], []), ([], []), ([0, 1], []), ([], []), ([], []), ([], []), ([], []), ([], []), ([], []), ([], []), ([0, 1], []), ([], []), ([], [])]) encSt58_len hm (kD 5 (kE (PJ.blockNormal (PJ.next (kM (kLo h31 [1, 2, 3, 6]))))))
     ·refine K.exit 4 (by kernel_rfl) (PJ.passExit ?_)
      obtain rfl := oi h29
      refine PJ.loopOut (fun e => nomatch e) (fun he2 => ?_)
      have h32 := congrArg some he2
      exact PJ.blockOut (kNo h32 [1, 2, 3])
    ·refine kcN h27 (fun (s8 : Int) => ([(2, .bool false), (3, iL s8)], [])) (fun s8 hy5 => ?_) (fun s8 h33 => ?_)
     ·refine kq (kb 6 (kl (fun (s3 : Int × Int) => ([(1, .ptr 0 0), (2, .bool false), (3, iL s3.1), (7, iL s3.2)], [.box (encSt46 x0)])) hy5 [1, 2, 3, 7] (fun s3 x277 hs3 => kS (kq (kBT 82 hs3 (fun h34 => ?_) (fun h35 => ?_))))))
      ·exact kKN (kS (kb 7 (km 4 (kIb 89 encSt25_len h34 (fun h36 => ke 5 (PJ.blockNormal (PJ.next (kM (kLo h36 [1, 2, 3, 7])))))))))
      ·refine K.exit 6 (by kernel_rfl) (PJ.passExit ?_)
       obtain rfl := oi h35
       refine PJ.loopOut (fun e => nomatch e) (fun he3 => ?_)
       have h37 := congrArg some he3
       exact PJ.blockOut (kNW h37 hFH hFD [])
     ·refine kq (kX ?_)
      obtain rfl := oi h33
      exact kZ hFn hFH hFD
def exerguelaw15_LocLess (x0 : St46) : Option (Bool) :=
 (Option.bind exerguelaw15_shown fun y0 => (Option.bind (exergueref15_Small x0) fun y3 => (bif (!y3) then (some y0) else (Option.bind (loc_Check x0) fun y4 => (bif (decide (¬ y4.2.2 = 0)) then (some y0) else (Option.bind (bif (decide ((x0.Curs_.length : Int) > 0)) then (bif inS 0 ((IntKind.wrap .i64 ((x0.Curs_.length : Int) - 1))) x0.Curs_.length then (some ((cut x0.Curs_ 0 ((IntKind.wrap .i64 ((x0.Curs_.length : Int) - 1)))))) else none) else (some x0.Curs_)) fun (s0 : (List St58)) => (Option.bind (bif (decide ((x0.Comps_.length : Int) > 0)) then (bif inS 0 ((IntKind.wrap .i64 ((x0.Comps_.length : Int) - 1))) x0.Comps_.length then (some ((cut x0.Comps_ 0 ((IntKind.wrap .i64 ((x0.Comps_.length : Int) - 1)))))) else none) else (some x0.Comps_)) fun (s1 : (List St25)) => (Option.bind (loc_Check (⟨x0.Tag_, x0.S_, x0.Pats_, ([] : List St91), s0, s1⟩ : St46)) fun y2 => (Option.bind (loc_Check (⟨([] : List UInt8), x0.S_, x0.Pats_, x0.Rules_, x0.Curs_, x0.Comps_⟩ : St46)) fun y1 => (Option.bind (bif y0 then (bif (decide (y2.2.2 = 0)) then (bif (decide (y1.2.2 = 8)) then (bif (decide (y1.1 = 1)) then (some (decide (y1.2.1 = 0))) else (some false)) else (some false)) else (some false)) else (some false)) fun (s2 : Bool) => (some s2)))))))))))
theorem exerguelaw15_LocLess_ok {x0 : St46} {r : Bool} (h : exerguelaw15_LocLess x0 = some r) : SC Tryz.prog 5 [.agg (encSt46 x0)] [] (.bool r) [] := by
 refine kFn (fn := Tryz.f5) (fun F hFn hFH hFD => ?_)
 unfold exerguelaw15_LocLess at h
 refine kq (kSR (kAb 15 h (fun _ => exerguelaw15_shown_ok) (fun y0 h0 => kr 1 (kS (kn 1 (kAb 17 h0 (fun _ => exergueref15_Small_ok) (fun y3 h1 => kr 1 (kBT 18 h1 (fun h2 => ?_) (fun h3 => ?_)))))))))
 ·refine kq (kX (PJ.passRet ?_))
  obtain rfl := oi h2
  exact kZ hFn hFH hFD
 ·refine kKN (kn 1 (kAb 22 h3 (fun _ => loc_Check_ok) (fun y4 h4 => kr 7 (kS (kq (kBT 27 h4 (fun h5 => ?_) (fun h6 => ?_)))))))
  ·refine kq (kX (PJ.passRet ?_))
   obtain rfl := oi h5
   exact kZ hFn hFH hFD
  ·refine kKN (kq (kSR (RJ.seg 2 [1, 2, 3, 7] (L2 := [(1, .ptr 0 0), (2, .bool false), (3, .bool y0), (7, .ptr 1 0)]) (H2 := [.box (encSt46 x0), .box (q12 x0.Tag_ x0.S_.Zero_ x0.S_.Dec_ x0.S_.Group_ x0.S_.Minus_ x0.S_.Plus_ x0.S_.Percent_ x0.S_.Exp_ x0.Pats_.a0_ x0.Pats_.a1_ x0.Pats_.a2_ x0.Pats_.a3_ [.nl, lsv encSt58 3 x0.Curs_, lsv encSt25 3 x0.Comps_])]) (by kernel_rfl) (kEN (kcN h6 (fun (s0 : (List St58)) => ([(1, .ptr 0 0), (2, .bool false), (3, .bool y0), (7, .ptr 1 0)], [.box (encSt46 x0), .box (q12 x0.Tag_ x0.S_.Zero_ x0.S_.Dec_ x0.S_.Group_ x0.S_.Minus_ x0.S_.Plus_ x0.S_.Percent_ x0.S_.Exp_ x0.Pats_.a0_ x0.Pats_.a1_ x0.Pats_.a2_ x0.Pats_.a3_ [.nl, lsv encSt58 3 s0, lsv encSt25 3 x0.Comps_])])) (fun s0 hy0 => ?_) (fun s0 h7 => ?_))))))
   ·refine kq (kBT 34 hy0 (fun h8 => ?_) (fun h9 => ?_))
    ·refine km 6 ?_
     obtain ⟨hm, h10⟩ := asrt h8
     exact RJ.rel (d := (some 41)) (ef := ⟨.lst (((IntKind.wrap .i64 ((x0.Curs_.length : Int) - 1)) : Int).toNat - (0 : Int).toNat) 3 (((x0.Curs_.flatMap encSt58).take (((IntKind.wrap .i64 ((x0.Curs_.length : Int) - 1)) : Int).toNat * 3)).drop ((0 : Int).toNat * 3)), [], []⟩) (ef' := ⟨.lst (cut x0.Curs_ 0 ((IntKind.wrap .i64 ((x0.Curs_.length : Int) - 1)))).length 3 ((cut x0.Curs_ 0 ((IntKind.wrap .i64 ((x0.Curs_.length : Int) - 1)))).flatMap encSt58), [], []⟩) (c := inS 0 ((IntKind.wrap .i64 ((x0.Curs_.length : Int) - 1))) x0.Curs_.length) (tr2 := []) (H2 := [.box (encSt46 x0), .box (q12 x0.Tag_ x0.S_.Zero_ x0.S_.Dec_ x0.S_.Group_ x0.S_.Minus_ x0.S_.Plus_ x0.S_.Percent_ x0.S_.Exp_ x0.Pats_.a0_ x0.Pats_.a1_ x0.Pats_.a2_ x0.Pats_.a3_ [.nl, lsv encSt58 3 x0.Curs_, lsv encSt25 3 x0.Comps_])]) (by kernel_rfl) hm (fun hc => N.slice encSt58_len hc) (by kernel_rfl) (ke 2 (kNo h10 [1, 2, 3, 7]))
    ·exact kK (kNo h9 [1, 2, 3, 7])
   ·refine kcN h7 (fun (s1 : (List St25)) => ([(1, .ptr 0 0), (2, .bool false), (3, .bool y0), (7, .ptr 1 0)], [.box (encSt46 x0), .box (q12 x0.Tag_ x0.S_.Zero_ x0.S_.Dec_ x0.S_.Group_ x0.S_.Minus_ x0.S_.Plus_ x0.S_.Percent_ x0.S_.Exp_ x0.Pats_.a0_ x0.Pats_.a1_ x0.Pats_.a2_ x0.Pats_.a3_ [.nl, lsv encSt58 3 s0, lsv encSt25 3 s1])])) (fun s1 hy1 => ?_) (fun s1 h11 => ?_)
    ·refine kq (kBT 46 hy1 (fun h12 => ?_) (fun h13 => ?_))
     ·refine km 6 ?_
      obtain ⟨hm, h14⟩ := asrt h12
      exact RJ.rel (d := (some 53)) (ef := ⟨.lst (((IntKind.wrap .i64 ((x0.Comps_.length : Int) - 1)) : Int).toNat - (0 : Int).toNat) 3 (((x0.Comps_.flatMap encSt25).take (((IntKind.wrap .i64 ((x0.Comps_.length : Int) - 1)) : Int).toNat * 3)).drop ((0 : Int).toNat * 3)), [], []⟩) (ef' := ⟨.lst (cut x0.Comps_ 0 ((IntKind.wrap .i64 ((x0.Comps_.length : Int) - 1)))).length 3 ((cut x0.Comps_ 0 ((IntKind.wrap .i64 ((x0.Comps_.length : Int) - 1)))).flatMap encSt25), [], []⟩) (c := inS 0 ((IntKind.wrap .i64 ((x0.Comps_.length : Int) - 1))) x0.Comps_.length) (tr2 := []) (H2 := [.box (encSt46 x0), .box (q12 x0.Tag_ x0.S_.Zero_ x0.S_.Dec_ x0.S_.Group_ x0.S_.Minus_ x0.S_.Plus_ x0.S_.Percent_ x0.S_.Exp_ x0.Pats_.a0_ x0.Pats_.a1_ x0.Pats_.a2_ x0.Pats_.a3_ [.nl, lsv encSt58 3 s0, lsv encSt25 3 x0.Comps_])]) (by kernel_rfl) hm (fun hc => N.slice encSt25_len hc) (by kernel_rfl) (ke 2 (kNo h14 [1, 2, 3, 7]))
     ·exact kK (kNo h13 [1, 2, 3, 7])
    ·refine kq (kq (kn 1 ?_))
     obtain ⟨y2, hy2, h15⟩ := bindS h11
     refine RJ.call0 (d := (some 59)) (f := 23) (args := [.agg (q12 x0.Tag_ x0.S_.Zero_ x0.S_.Dec_ x0.S_.Group_ x0.S_.Minus_ x0.S_.Plus_ x0.S_.Percent_ x0.S_.Exp_ x0.Pats_.a0_ x0.Pats_.a1_ x0.Pats_.a2_ x0.Pats_.a3_ [.nl, lsv encSt58 3 s0, lsv encSt25 3 s1])]) (v := .tup [iL y2.1, iL y2.2.1, iL y2.2.2]) (tr2 := []) (by kernel_rfl) (by kernel_rfl) (.cons (Le.agg (.cons (Le.refl _) (.cons (Le.refl _) (.cons (Le.refl _) (.cons (Le.refl _) (.cons (Le.refl _) (.cons (Le.refl _) (.cons (Le.refl _) (.cons (Le.refl _) (.cons (Le.refl _) (.cons (Le.refl _) (.cons (Le.refl _) (.cons (Le.refl _) (.cons (Le.nl _) (.cons (Le.refl _) (.cons (Le.refl _) .nil)))))))))))))))) .nil) (loc_Check_ok hy2) (by kernel_rfl) (kr 7 (kn 1 (kAb 65 h15 (fun _ => loc_Check_ok) (fun y1 h16 => kr 7 (kcN h16 (fun (s2 : Bool) => ([(2, .bool s2)], [])) (fun s2 hy3 => ?_) (fun s2 h17 => ?_))))))
     ·refine km 2 (kB 70 hy3 (fun h18 => ?_) (fun h19 => ?_))
      ·refine kc 4 (kB 74 h18 (fun h20 => ?_) (fun h21 => ?_))
       ·refine RJ.seg 4 [2, 12, 13, 78] (L2 := [(2, .bool false), (12, iL y1.1), (13, iL y1.2.1), (78, .bool (decide (y1.2.2 = 8)))]) (H2 := [.box (encSt46 x0), .box (q12 x0.Tag_ x0.S_.Zero_ x0.S_.Dec_ x0.S_.Group_ x0.S_.Minus_ x0.S_.Plus_ x0.S_.Percent_ x0.S_.Exp_ x0.Pats_.a0_ x0.Pats_.a1_ x0.Pats_.a2_ x0.Pats_.a3_ [.nl, lsv encSt58 3 s0, lsv encSt25 3 s1]), .box (q12 ([] : List UInt8) x0.S_.Zero_ x0.S_.Dec_ x0.S_.Group_ x0.S_.Minus_ x0.S_.Plus_ x0.S_.Percent_ x0.S_.Exp_ x0.Pats_.a0_ x0.Pats_.a1_ x0.Pats_.a2_ x0.Pats_.a3_ [lsv encSt91 2 x0.Rules_, lsv encSt58 3 x0.Curs_, lsv encSt25 3 x0.Comps_])]) (by kernel_rfl) (kB 78 h20 (fun h22 => ?_) (fun h23 => ?_))
        ·refine kc 4 (kB 82 h22 (fun h24 => ?_) (fun h25 => ?_))
         ·exact ke 4 (kNW h24 hFH hFD [])
         ·exact ke 4 (kNW h25 hFH hFD [])
        ·exact ke 8 (kNW h23 hFH hFD [])
       ·exact RJ.seg 12 [2] (L2 := [(2, .bool false)]) (H2 := [.box (encSt46 x0), .box (q12 x0.Tag_ x0.S_.Zero_ x0.S_.Dec_ x0.S_.Group_ x0.S_.Minus_ x0.S_.Plus_ x0.S_.Percent_ x0.S_.Exp_ x0.Pats_.a0_ x0.Pats_.a1_ x0.Pats_.a2_ x0.Pats_.a3_ [.nl, lsv encSt58 3 s0, lsv encSt25 3 s1]), .box (q12 ([] : List UInt8) x0.S_.Zero_ x0.S_.Dec_ x0.S_.Group_ x0.S_.Minus_ x0.S_.Plus_ x0.S_.Percent_ x0.S_.Exp_ x0.Pats_.a0_ x0.Pats_.a1_ x0.Pats_.a2_ x0.Pats_.a3_ [lsv encSt91 2 x0.Rules_, lsv encSt58 3 x0.Curs_, lsv encSt25 3 x0.Comps_])]) (by kernel_rfl) (kE (kNW h21 hFH hFD []))
      ·exact ke 16 (kNW h19 hFH hFD [])
     ·refine kX ?_
      obtain rfl := oi h17
      exact kZ hFn hFH hFD
end Go.Proofs.YtcapcgbamehojaaGreatDoor
