/-
  What the functions of this program come to, as functions of natives, each with the proof that it does. No conditions.
-/
import Derived.Test.YteaokhdkocddcaaGreatDoorProg
import Derived.Test.YteaokhdkocddcaaGreatDoorSySL
import Derived.Test.YteaokhdkocddcaaGreatDoorGa
namespace Go.Proofs.YteaokhdkocddcaaGreatDoor
open Go Go.Sy Go.RowKit
set_option linter.unusedVariables false
set_option linter.unusedSimpArgs false
set_option maxRecDepth 100000
set_option maxHeartbeats 4000000
def slices_Reverse_s0 (x0 : List Int) : Option ((List Int)) :=
 (loopN (fun (s1 : Int × Int × (List Int)) => (bif (decide (s1.1 < s1.2.1)) then (bif inR s1.2.1 s1.2.2.length then (bif inR s1.2.1 s1.2.2.length then (bif inR s1.1 s1.2.2.length then (bif inR s1.1 s1.2.2.length then (bif inR s1.1 s1.2.2.length then (bif inR s1.1 s1.2.2.length then (bif inR s1.2.1 (setAt s1.2.2 s1.1 (nth s1.2.2 s1.2.1)).length then (bif inR s1.2.1 (setAt s1.2.2 s1.1 (nth s1.2.2 s1.2.1)).length then (some (.inl ((IntKind.wrap .i64 (s1.1 + 1)), (IntKind.wrap .i64 (s1.2.1 - 1)), (setAt (setAt s1.2.2 s1.1 (nth s1.2.2 s1.2.1)) s1.2.1 (nth s1.2.2 s1.1))))) else none) else none) else none) else none) else none) else none) else none) else none) else (some (.inr s1.2.2)))) big (0, (IntKind.wrap .i64 ((x0.length : Int) - 1)), x0))
theorem slices_Reverse_s0_ok {x0 : List Int} {r : (List Int)} (h : slices_Reverse_s0 x0 = some r) : SC Tryz.prog 122 [.vc 0] [vecL (encI .u8) 1 5 x0] (.tup []) [vecL (encI .u8) 1 5 r] := by
 refine kFn (fn := Tryz.f122) (fun F hFn hFH hFD => ?_)
 unfold slices_Reverse_s0 at h
 refine kSR ?_
 refine kC 5 [0,2,3] ?_
 refine kEN ?_
 refine kb 0 ?_
 refine kl (fun (s1 : Int × Int × (List Int)) => ([(0, .vc 0), (2, .int .i64 s1.1), (3, .int .i64 s1.2.1)], [vecL (encI .u8) 1 5 s1.2.2])) h [0, 2, 3] (fun s1 x29 hs28 => ?_)
 refine kS ?_
 refine kSR ?_
 refine kC 3 [0,2,3,9] ?_
 refine kEN ?_
 refine kBJ 9 hs28 (fun h31 => ?_) (fun h32 => ?_)
 ·refine kT ?_
  refine kK ?_
  refine PJ.next ?_
  refine kS ?_
  refine kb 1 ?_
  refine J.keep [0, 2, 3] (L2 := [(0, .vc 0), (2, .int .i64 s1.1), (3, .int .i64 s1.2.1)]) (by kernel_rfl) ?_
  refine K.draw (by kernel_rfl) (by kernel_rfl) (by kernel_rfl) (H2 := [vecL (encI .u8) 1 5 s1.2.2]) (by kernel_rfl) (n := 1) (by kernel_rfl) ?_
  refine kD 6 ?_
  obtain ⟨hm, h33⟩ := asrt h31
  refine kQ 20 (.ptr 0 ((s1.2.1 : Int).toNat * 1)) [0] (tr2 := [([], []), ([], []), ([], []), ([], []), ([], []), ([], []), ([1], [])]) hm ?_
  obtain ⟨hm, h34⟩ := asrt h33
  refine RJ.rel (d := (some 21)) (ef := ⟨(((s1.2.2).flatMap (encI .u8)).drop ((s1.2.1 : Int).toNat * 1)).headD .undef, [0], []⟩) (ef' := ⟨.int .u8 (nth s1.2.2 s1.2.1), [0], []⟩) (c := Nat.blt ((s1.2.1 : Int).toNat * 1) (s1.2.2.flatMap (encI .u8)).length) (tr2 := [([], []), ([], []), ([], []), ([], []), ([], []), ([], []), ([1], []), ([0, 1], [])]) (H2 := [vecL (encI .u8) 1 5 s1.2.2]) (by kernel_rfl) (loadv_ok (encI_len .u8) rfl hm) (fun hc => N.load1 (encI_len .u8) (fun _ => rfl) hm) (by kernel_rfl) ?_
  refine kD 2 ?_
  obtain ⟨hm, h35⟩ := asrt h34
  refine kQ 24 (.ptr 0 ((s1.1 : Int).toNat * 1)) [0] (tr2 := [([], []), ([], []), ([], []), ([], []), ([], []), ([], []), ([1], []), ([0, 1], []), ([], []), ([], []), ([1], [])]) hm ?_
  obtain ⟨hm, h36⟩ := asrt h35
  refine RJ.rel (d := (some 25)) (ef := ⟨(((s1.2.2).flatMap (encI .u8)).drop ((s1.1 : Int).toNat * 1)).headD .undef, [0], []⟩) (ef' := ⟨.int .u8 (nth s1.2.2 s1.1), [0], []⟩) (c := Nat.blt ((s1.1 : Int).toNat * 1) (s1.2.2.flatMap (encI .u8)).length) (tr2 := [([], []), ([], []), ([], []), ([], []), ([], []), ([], []), ([1], []), ([0, 1], []), ([], []), ([], []), ([1], []), ([0, 1], [])]) (H2 := [vecL (encI .u8) 1 5 s1.2.2]) (by kernel_rfl) (loadv_ok (encI_len .u8) rfl hm) (fun hc => N.load1 (encI_len .u8) (fun _ => rfl) hm) (by kernel_rfl) ?_
  obtain ⟨hm, h37⟩ := asrt h36
  refine kQ 26 (.ptr 0 ((s1.1 : Int).toNat * 1)) [0] (tr2 := [([], []), ([], []), ([], []), ([], []), ([], []), ([], []), ([1], []), ([0, 1], []), ([], []), ([], []), ([1], []), ([0, 1], []), ([1], [])]) hm ?_
  obtain ⟨hm, h38⟩ := asrt h37
  refine RJ.rel (d := none) (ef := ⟨.undef, [0], [(0, .vec (s1.2.2).length 1 5 (splice ((s1.2.2).flatMap (encI .u8)) ((s1.1 : Int).toNat * 1) ((encI .u8) (nth s1.2.2 s1.2.1))))]⟩) (ef' := ⟨.undef, [0], [(0, vecL (encI .u8) 1 5 (setAt s1.2.2 s1.1 (nth s1.2.2 s1.2.1)))]⟩) (c := Nat.ble (((s1.1 : Int).toNat * 1) + ((encI .u8) (nth s1.2.2 s1.2.1)).length) (s1.2.2.flatMap (encI .u8)).length) (tr2 := [([], []), ([], []), ([], []), ([], []), ([], []), ([], []), ([1], []), ([0, 1], []), ([], []), ([], []), ([1], []), ([0, 1], []), ([1], []), ([0, 1], [0])]) (H2 := [vecL (encI .u8) 1 5 (setAt s1.2.2 s1.1 (nth s1.2.2 s1.2.1))]) (by kernel_rfl) (storev_ok (encI_len .u8) hm) (fun hc => N.store (encI_len .u8) hm) (by kernel_rfl) ?_
  obtain ⟨hm, h39⟩ := asrt h38
  refine kQ 27 (.ptr 0 ((s1.2.1 : Int).toNat * 1)) [0] (tr2 := [([], []), ([], []), ([], []), ([], []), ([], []), ([], []), ([1], []), ([0, 1], []), ([], []), ([], []), ([1], []), ([0, 1], []), ([1], []), ([0, 1], [0]), ([1], [])]) hm ?_
  obtain ⟨hm, h40⟩ := asrt h39
  refine RJ.rel (d := none) (ef := ⟨.undef, [0], [(0, .vec ((setAt s1.2.2 s1.1 (nth s1.2.2 s1.2.1))).length 1 5 (splice (((setAt s1.2.2 s1.1 (nth s1.2.2 s1.2.1))).flatMap (encI .u8)) ((s1.2.1 : Int).toNat * 1) ((encI .u8) (nth s1.2.2 s1.1))))]⟩) (ef' := ⟨.undef, [0], [(0, vecL (encI .u8) 1 5 (setAt (setAt s1.2.2 s1.1 (nth s1.2.2 s1.2.1)) s1.2.1 (nth s1.2.2 s1.1)))]⟩) (c := Nat.ble (((s1.2.1 : Int).toNat * 1) + ((encI .u8) (nth s1.2.2 s1.1)).length) ((setAt s1.2.2 s1.1 (nth s1.2.2 s1.2.1)).flatMap (encI .u8)).length) (tr2 := [([], []), ([], []), ([], []), ([], []), ([], []), ([], []), ([1], []), ([0, 1], []), ([], []), ([], []), ([1], []), ([0, 1], []), ([1], []), ([0, 1], [0]), ([1], []), ([0, 1], [0])]) (H2 := [vecL (encI .u8) 1 5 ((setAt (setAt s1.2.2 s1.1 (nth s1.2.2 s1.2.1)) s1.2.1 (nth s1.2.2 s1.1)))]) (by kernel_rfl) (storev_ok (encI_len .u8) hm) (fun hc => N.store (encI_len .u8) hm) (by kernel_rfl) ?_
  refine kE ?_
  refine PJ.blockNormal ?_
  refine PJ.next ?_
  refine kR ?_
  refine kC 6 [0,2,3] ?_
  refine kE ?_
  obtain rfl := oi h40
  exact kLN [0, 2, 3]
 ·refine kF ?_
  refine K.exit 0 (by kernel_rfl) ?_
  refine PJ.passExit ?_
  obtain rfl := oi h32
  refine PJ.loopOut (fun e => nomatch e) (fun he42 => ?_)
  have h41 := congrArg some he42
  refine PJ.blockOut ?_
  obtain rfl := oi h41
  exact K.retV (H0 := [vecL (encI .u8) 1 5 x0]) [0] (.inl rfl) hFn hFH hFD (by kernel_rfl) (v1 := .tup []) (by kernel_rfl) (by kernel_rfl) (by kernel_rfl) (by decide) (by kernel_rfl) (by kernel_rfl) (by kernel_rfl) (by kernel_rfl) (by kernel_rfl)
def oper_spell (x0 : Int) : Option (List Int) :=
 (Option.bind (loopN (fun (s27 : Int × (List Int)) => (bif (decide (s27.1 > 0)) then (bif room (s27.2.length + (([(IntKind.wrap .u8 (Int.tmod s27.1 10))] : List Int)).length) then (some (.inl ((IntKind.wrap .i64 (Int.tdiv s27.1 10)), (s27.2 ++ (([(IntKind.wrap .u8 (Int.tmod s27.1 10))] : List Int)))))) else none) else (some (.inr s27.2)))) big (x0, ([] : List Int))) fun (s22 : (List Int)) => (Option.bind (slices_Reverse_s0 s22) fun y48 => (some y48)))
theorem oper_spell_ok {x0 : Int} {r : List Int} (h : oper_spell x0 = some r) : SC Tryz.prog 112 [.int .i64 x0] [] (lsv (encI .u8) 1 r) [] := by
 refine kFn (fn := Tryz.f112) (fun F hFn hFH hFD => ?_)
 unfold oper_spell at h
 refine kSR ?_
 refine kC 1 [0,2] ?_
 refine kEN ?_
 refine kSR ?_
 refine kC 1 [0,2,3] ?_
 refine kEN ?_
 obtain ⟨s22, hy24, h26⟩ := bindS h
 refine K.cutN (by kernel_rfl) (fun (s22 : (List Int)) => ([(2, .nl), (3, .vc 0)], [vecL (encI .u8) 1 5 s22])) s22 ?_ ?_
 ·refine kb 0 ?_
  refine J.wk (Wk.viv 3 1 5 (by kernel_rfl)) ?_
  refine kl (fun (s27 : Int × (List Int)) => ([(0, .int .i64 s27.1), (2, .nl), (3, .vc 0)], [vecL (encI .u8) 1 5 s27.2])) hy24 [0, 2, 3] (fun s27 x41 hs40 => ?_)
  refine kS ?_
  refine kSR ?_
  refine kC 2 [0,2,3,5] ?_
  refine kEN ?_
  refine kBJ 5 hs40 (fun h43 => ?_) (fun h44 => ?_)
  ·refine kT ?_
   refine kK ?_
   refine PJ.next ?_
   refine kS ?_
   refine kb 1 ?_
   refine kR ?_
   refine kC 5 [0,2,3,8,12] ?_
   obtain ⟨hm, h45⟩ := asrt h43
   refine RJ.rel (d := (some 13)) (ef := ⟨.vc 2, [0, 1], [(0, .gone), (2, .vec (s27.2.length + (([(IntKind.wrap .u8 (Int.tmod s27.1 10))] : List Int)).length) 1 5 (s27.2.flatMap (encI .u8) ++ (([(IntKind.wrap .u8 (Int.tmod s27.1 10))] : List Int)).flatMap (encI .u8)))]⟩) (ef' := ⟨.vc 2, [0, 1], [(0, .gone), (2, vecL (encI .u8) 1 5 (s27.2 ++ (([(IntKind.wrap .u8 (Int.tmod s27.1 10))] : List Int))))]⟩) (c := roomB (s27.2.length + (([(IntKind.wrap .u8 (Int.tmod s27.1 10))] : List Int)).length)) (tr2 := []) (H2 := [.gone, vecL (encI .u8) 1 5 (([(IntKind.wrap .u8 (Int.tmod s27.1 10))] : List Int)), vecL (encI .u8) 1 5 ((s27.2 ++ (([(IntKind.wrap .u8 (Int.tmod s27.1 10))] : List Int))))]) (by kernel_rfl) (roomB_of_room hm) (fun hc => N.app) (by kernel_rfl) ?_
   refine kC 1 [0,2,3] ?_
   refine kE ?_
   refine PJ.blockNormal ?_
   refine PJ.next ?_
   refine kR ?_
   refine kC 3 [0,2,3] ?_
   refine kE ?_
   obtain rfl := oi h45
   refine kW (L2 := [(0, .int .i64 (IntKind.wrap .i64 (Int.tdiv s27.1 10))), (2, .nl), (3, .vc 0)]) (H2 := [vecL (encI .u8) 1 5 ((s27.2 ++ (([(IntKind.wrap .u8 (Int.tmod s27.1 10))] : List Int))))]) hFH hFD [2] ?_
   exact kLN [0, 2, 3]
  ·refine kF ?_
   refine K.exit 0 (by kernel_rfl) ?_
   refine PJ.passExit ?_
   obtain rfl := oi h44
   refine PJ.loopOut (fun e => nomatch e) (fun he47 => ?_)
   have h46 := congrArg some he47
   refine PJ.blockOut ?_
   obtain rfl := oi h46
   exact kN [2, 3]
 ·refine kSR ?_
  refine kC 1 [2,3,14] ?_
  obtain ⟨y48, hy49, h50⟩ := bindS h26
  refine kCG (some 15) (args := [.vc 0]) (v := .tup []) (H2 := [vecL (encI .u8) 1 5 y48]) [0] (slices_Reverse_s0_ok hy49) ?_
  refine kEN ?_
  refine kSR ?_
  refine kC 2 [2] ?_
  refine kEN ?_
  refine kX ?_
  obtain rfl := oi h50
  refine PJ.wk (Wk.freeze 0 (n := y48.length) (k := 1) (e := 5) (cs := y48.flatMap (encI .u8)) (by kernel_rfl)) ?_
  exact kZ hFn hFH hFD
def oper_asked__long (x0 : St120) : Option ((List Int) × Bool) :=
 (Option.bind (oper_spell (x0.Oper_.F_.length : Int)) fun y1 => (some (y1, true)))
theorem oper_asked__long_ok {x0 : St120} {r : (List Int) × Bool} (h : oper_asked__long x0 = some r) : SC Tryz.prog 99 [.agg (encSt120 x0)] [] (.tup [lsv (encI .u8) 1 r.1, .bool r.2]) [] := by
 refine kFn (fn := Tryz.f99) (fun F hFn hFH hFD => ?_)
 unfold oper_asked__long at h
 refine kSR ?_
 refine kC 3 [1,2,3] ?_
 refine kEN ?_
 refine kSR ?_
 refine kC 4 [2,3,7] ?_
 obtain ⟨y1, hy2, h3⟩ := bindS h
 refine kA 8 (oper_spell_ok hy2) ?_
 refine kC 2 [2,3] ?_
 refine kEN ?_
 refine kX ?_
 obtain rfl := oi h3
 exact kZ hFn hFH hFD
def oper_asked__short (x0 : St120) : Option ((List Int) × Bool) :=
 (Option.bind (oper_spell x0.Oper_.W_) fun y1 => (some (y1, true)))
theorem oper_asked__short_ok {x0 : St120} {r : (List Int) × Bool} (h : oper_asked__short x0 = some r) : SC Tryz.prog 100 [.agg (encSt120 x0)] [] (.tup [lsv (encI .u8) 1 r.1, .bool r.2]) [] := by
 refine kFn (fn := Tryz.f100) (fun F hFn hFH hFD => ?_)
 unfold oper_asked__short at h
 refine kSR ?_
 refine kC 3 [1,2,3] ?_
 refine kEN ?_
 refine kSR ?_
 refine kC 3 [2,3,6] ?_
 obtain ⟨y1, hy2, h3⟩ := bindS h
 refine kA 7 (oper_spell_ok hy2) ?_
 refine kC 2 [2,3] ?_
 refine kEN ?_
 refine kX ?_
 obtain rfl := oi h3
 exact kZ hFn hFH hFD
def oper_strip (x0 : List Int) : Option (List Int) :=
 (Option.bind (loopN (fun (s141 : (List Int)) => (Option.bind (Option.bind (bif (decide ((s141.length : Int) > 0)) then (bif inR 0 s141.length then (some ((decide ((nth s141 0) = 0)))) else none) else (some false)) fun (s260 : Bool) => (bif s260 then (some (.inl ())) else (some (.inr (.inr s141))))) (joinX fun (s251 : Unit) => (bif inS 1 (s141.length : Int) s141.length then (some (.inl (cut s141 1 (s141.length : Int)))) else none)))) big x0) fun (s136 : (List Int)) => (Option.bind (slices_Clone s136) fun y276 => (some y276)))
theorem oper_strip_ok {x0 : List Int} {r : List Int} (h : oper_strip x0 = some r) : SC Tryz.prog 104 [lsv (encI .u8) 1 x0] [] (lsv (encI .u8) 1 r) [] := by
 refine kFn (fn := Tryz.f104) (fun F hFn hFH hFD => ?_)
 unfold oper_strip at h
 refine kSR ?_
 refine kC 1 [0,2] ?_
 refine kEN ?_
 obtain ⟨s136, hy138, h140⟩ := bindS h
 refine K.cutN (by kernel_rfl) (fun (s136 : (List Int)) => ([(0, lsv (encI .u8) 1 s136), (2, .nl)], [])) s136 ?_ ?_
 ·refine kb 0 ?_
  refine kl (fun (s141 : (List Int)) => ([(0, lsv (encI .u8) 1 s141), (2, .nl)], [])) hy138 [0, 2] (fun s141 x231 hs230 => ?_)
  obtain ⟨y252, hy253, h254⟩ := bindS hs230
  refine K.cutX (by kernel_rfl) (fun (s251 : Unit) => ([(0, lsv (encI .u8) 1 s141), (2, .nl)], [])) y252 ?_ (fun s251 hs => ?_)
  ·obtain ⟨s260, hy262, h264⟩ := bindS hy253
   refine K.cutN (by kernel_rfl) (fun (s260 : Bool) => ([(0, lsv (encI .u8) 1 s141), (2, .nl), (11, .bool s260)], [])) s260 ?_ ?_
   ·refine kR ?_
    refine kC 4 [0,2,6] ?_
    refine kB 6 hy262 (fun h266 => ?_) (fun h267 => ?_)
    ·refine kC 1 [0,2,6,7] ?_
     obtain ⟨hm, h268⟩ := asrt h266
     refine kI 8 (encI_len .u8) hm ?_
     refine kC 3 [0,2,11] ?_
     refine kE ?_
     obtain rfl := oi h268
     exact kN [0, 2, 11]
    ·refine kC 5 [0,2,11] ?_
     refine kE ?_
     obtain rfl := oi h267
     exact kN [0, 2, 11]
   ·refine kBJ 11 h264 (fun h270 => ?_) (fun h271 => ?_)
    ·refine kT ?_
     refine kK ?_
     obtain rfl := oi h270
     exact kXl [0, 2]
    ·refine kF ?_
     refine K.exit 0 (by kernel_rfl) ?_
     obtain rfl := oi h271
     have h272 := joinX_inr h254
     refine PJ.cutXr (fun e => nomatch e) ?_
     obtain rfl := oi h272
     refine PJ.loopOut (fun e => nomatch e) (fun he274 => ?_)
     have h273 := congrArg some he274
     refine PJ.blockOut ?_
     obtain rfl := oi h273
     exact kN [0, 2]
  ·subst hs
   have h255 := joinX_inl h254
   refine kb 1 ?_
   refine kR ?_
   refine kC 1 [0,2,12] ?_
   obtain ⟨hm, h275⟩ := asrt h255
   refine RJ.rel (d := (some 13)) (ef := ⟨.lst (((s141.length : Int) : Int).toNat - (1 : Int).toNat) 1 (((s141.flatMap (encI .u8)).take (((s141.length : Int) : Int).toNat * 1)).drop ((1 : Int).toNat * 1)), [], []⟩) (ef' := ⟨.lst (cut s141 1 (s141.length : Int)).length 1 ((cut s141 1 (s141.length : Int)).flatMap (encI .u8)), [], []⟩) (c := inS 1 (s141.length : Int) s141.length) (tr2 := []) (H2 := []) (by kernel_rfl) hm (fun hc => N.slice (encI_len .u8) hc) (by kernel_rfl) ?_
   refine kC 1 [0,2] ?_
   refine kE ?_
   refine PJ.blockNormal ?_
   obtain rfl := oi h275
   exact kLN [0, 2]
 ·refine kSR ?_
  refine kC 1 [2,14] ?_
  obtain ⟨y276, hy277, h278⟩ := bindS h140
  refine kA 15 (slices_Clone_ok hy277) ?_
  refine kC 1 [2] ?_
  refine kEN ?_
  refine kX ?_
  obtain rfl := oi h278
  exact kZ hFn hFH hFD
def oper_asked__part (x0 : St120) : Option ((List Int) × Bool) :=
 (Option.bind (oper_strip x0.Oper_.F_) fun y1 => (some (y1, true)))
theorem oper_asked__part_ok {x0 : St120} {r : (List Int) × Bool} (h : oper_asked__part x0 = some r) : SC Tryz.prog 101 [.agg (encSt120 x0)] [] (.tup [lsv (encI .u8) 1 r.1, .bool r.2]) [] := by
 refine kFn (fn := Tryz.f101) (fun F hFn hFH hFD => ?_)
 unfold oper_asked__part at h
 refine kSR ?_
 refine kC 3 [1,2,3] ?_
 refine kEN ?_
 refine kSR ?_
 refine kC 3 [2,3,6] ?_
 obtain ⟨y1, hy2, h3⟩ := bindS h
 refine kA 7 (oper_strip_ok hy2) ?_
 refine kC 2 [2,3] ?_
 refine kEN ?_
 refine kX ?_
 obtain rfl := oi h3
 exact kZ hFn hFH hFD
def oper_asked__cut (x0 : St120) : Option ((List Int) × Bool) :=
 (bif inS 0 x0.Oper_.W_ x0.Oper_.F_.length then (Option.bind (oper_strip (cut x0.Oper_.F_ 0 x0.Oper_.W_)) fun y2 => (some (y2, true))) else none)
theorem oper_asked__cut_ok {x0 : St120} {r : (List Int) × Bool} (h : oper_asked__cut x0 = some r) : SC Tryz.prog 102 [.agg (encSt120 x0)] [] (.tup [lsv (encI .u8) 1 r.1, .bool r.2]) [] := by
 refine kFn (fn := Tryz.f102) (fun F hFn hFH hFD => ?_)
 unfold oper_asked__cut at h
 refine kSR ?_
 refine kC 3 [1,2,3] ?_
 refine kEN ?_
 refine kSR ?_
 refine kC 6 [2,3,6,9] ?_
 obtain ⟨hm, h1⟩ := asrt h
 refine RJ.rel (d := (some 10)) (ef := ⟨.lst ((x0.Oper_.W_ : Int).toNat - (0 : Int).toNat) 1 (((x0.Oper_.F_.flatMap (encI .u8)).take ((x0.Oper_.W_ : Int).toNat * 1)).drop ((0 : Int).toNat * 1)), [], []⟩) (ef' := ⟨.lst (cut x0.Oper_.F_ 0 x0.Oper_.W_).length 1 ((cut x0.Oper_.F_ 0 x0.Oper_.W_).flatMap (encI .u8)), [], []⟩) (c := inS 0 x0.Oper_.W_ x0.Oper_.F_.length) (tr2 := []) (H2 := [.box (encSt120 x0)]) (by kernel_rfl) hm (fun hc => N.slice (encI_len .u8) hc) (by kernel_rfl) ?_
 obtain ⟨y2, hy3, h4⟩ := bindS h1
 refine kA 11 (oper_strip_ok hy3) ?_
 refine kC 2 [2,3] ?_
 refine kEN ?_
 refine kX ?_
 obtain rfl := oi h4
 exact kZ hFn hFH hFD
def oper_asked__power (x0 : St120) : Option ((List Int) × Bool) :=
 (Option.bind (oper_spell x0.Oper_.C_) fun y1 => (some (y1, true)))
theorem oper_asked__power_ok {x0 : St120} {r : (List Int) × Bool} (h : oper_asked__power x0 = some r) : SC Tryz.prog 103 [.agg (encSt120 x0)] [] (.tup [lsv (encI .u8) 1 r.1, .bool r.2]) [] := by
 refine kFn (fn := Tryz.f103) (fun F hFn hFH hFD => ?_)
 unfold oper_asked__power at h
 refine kSR ?_
 refine kC 3 [1,2,3] ?_
 refine kEN ?_
 refine kSR ?_
 refine kC 3 [2,3,6] ?_
 obtain ⟨y1, hy2, h3⟩ := bindS h
 refine kA 7 (oper_spell_ok hy2) ?_
 refine kC 2 [2,3] ?_
 refine kEN ?_
 refine kX ?_
 obtain rfl := oi h3
 exact kZ hFn hFH hFD
def oper_Operand (x0 : St33) (x1 : Int) : Option ((List Int) × Bool) :=
 (Option.bind (oper_Right x0) fun y1 => (bif (!y1) then (some (([] : List Int), false)) else (Option.bind (oper_asked__operands_s0 (⟨x0⟩ : St120)) fun y7 => (bif (decide (x1 = 110)) then (Option.bind (oper_asked__number (⟨x0⟩ : St120)) fun y14 => (some (y14.1, y14.2))) else (bif (decide (x1 = 105)) then (Option.bind (oper_asked__whole (⟨x0⟩ : St120)) fun y21 => (some (y21.1, y21.2))) else (bif (decide (x1 = 118)) then (Option.bind (oper_asked__long (⟨x0⟩ : St120)) fun y28 => (some (y28.1, y28.2))) else (bif (decide (x1 = 119)) then (Option.bind (oper_asked__short (⟨x0⟩ : St120)) fun y35 => (some (y35.1, y35.2))) else (bif (decide (x1 = 102)) then (Option.bind (oper_asked__part (⟨x0⟩ : St120)) fun y42 => (some (y42.1, y42.2))) else (bif (decide (x1 = 116)) then (Option.bind (oper_asked__cut (⟨x0⟩ : St120)) fun y49 => (some (y49.1, y49.2))) else (bif (decide (x1 = 99)) then (Option.bind (oper_asked__power (⟨x0⟩ : St120)) fun y56 => (some (y56.1, y56.2))) else (bif (decide (x1 = 101)) then (Option.bind (oper_asked__power (⟨x0⟩ : St120)) fun y63 => (some (y63.1, y63.2))) else (some (([] : List Int), false)))))))))))))
theorem oper_Operand_ok {x0 : St33} {x1 : Int} {r : (List Int) × Bool} (h : oper_Operand x0 x1 = some r) : SC Tryz.prog 74 [.agg (encSt33 x0), .int .u8 x1] [] (.tup [lsv (encI .u8) 1 r.1, .bool r.2]) [] := by
 refine kFn (fn := Tryz.f74) (fun F hFn hFH hFD => ?_)
 unfold oper_Operand at h
 refine kSR ?_
 refine kC 3 [1,2,4,5] ?_
 refine kEN ?_
 refine kS ?_
 refine kSR ?_
 refine kC 1 [1,2,4,5,8] ?_
 obtain ⟨y1, hy2, h3⟩ := bindS h
 refine kA 9 (oper_Right_ok hy2) ?_
 refine kC 1 [1,2,4,5,10] ?_
 refine kEN ?_
 refine kBJ 10 h3 (fun h5 => ?_) (fun h6 => ?_)
 ·refine kT ?_
  refine kSR ?_
  refine kC 2 [1,2,4,5] ?_
  refine kEN ?_
  refine kX ?_
  refine PJ.passRet ?_
  obtain rfl := oi h5
  refine PJ.res (v1 := .tup [.nl, .bool false]) (Le.tup (.cons (Le.nl _) (.cons (Le.refl _) .nil))) ?_
  exact kZ hFn hFH hFD
 ·refine kF ?_
  refine kK ?_
  refine PJ.next ?_
  refine kSR ?_
  refine kC 2 [1,4,5,13] ?_
  obtain ⟨y7, hy8, h9⟩ := bindS h6
  refine kCG (some 14) (args := [.agg (encSt33 x0)]) (v := .mp 1) (H2 := [.box (encSt33 x0), .map [(.int .u8 110, .fn (.func 97) [.agg [lsv (encI .u8) 1 ((⟨x0⟩ : St120).Oper_.I_), lsv (encI .u8) 1 ((⟨x0⟩ : St120).Oper_.F_), .int .i64 ((⟨x0⟩ : St120).Oper_.W_), .int .i64 ((⟨x0⟩ : St120).Oper_.C_)]] []), (.int .u8 105, .fn (.func 98) [.agg [lsv (encI .u8) 1 ((⟨x0⟩ : St120).Oper_.I_), lsv (encI .u8) 1 ((⟨x0⟩ : St120).Oper_.F_), .int .i64 ((⟨x0⟩ : St120).Oper_.W_), .int .i64 ((⟨x0⟩ : St120).Oper_.C_)]] []), (.int .u8 118, .fn (.func 99) [.agg [lsv (encI .u8) 1 ((⟨x0⟩ : St120).Oper_.I_), lsv (encI .u8) 1 ((⟨x0⟩ : St120).Oper_.F_), .int .i64 ((⟨x0⟩ : St120).Oper_.W_), .int .i64 ((⟨x0⟩ : St120).Oper_.C_)]] []), (.int .u8 119, .fn (.func 100) [.agg [lsv (encI .u8) 1 ((⟨x0⟩ : St120).Oper_.I_), lsv (encI .u8) 1 ((⟨x0⟩ : St120).Oper_.F_), .int .i64 ((⟨x0⟩ : St120).Oper_.W_), .int .i64 ((⟨x0⟩ : St120).Oper_.C_)]] []), (.int .u8 102, .fn (.func 101) [.agg [lsv (encI .u8) 1 ((⟨x0⟩ : St120).Oper_.I_), lsv (encI .u8) 1 ((⟨x0⟩ : St120).Oper_.F_), .int .i64 ((⟨x0⟩ : St120).Oper_.W_), .int .i64 ((⟨x0⟩ : St120).Oper_.C_)]] []), (.int .u8 116, .fn (.func 102) [.agg [lsv (encI .u8) 1 ((⟨x0⟩ : St120).Oper_.I_), lsv (encI .u8) 1 ((⟨x0⟩ : St120).Oper_.F_), .int .i64 ((⟨x0⟩ : St120).Oper_.W_), .int .i64 ((⟨x0⟩ : St120).Oper_.C_)]] []), (.int .u8 99, .fn (.func 103) [.agg [lsv (encI .u8) 1 ((⟨x0⟩ : St120).Oper_.I_), lsv (encI .u8) 1 ((⟨x0⟩ : St120).Oper_.F_), .int .i64 ((⟨x0⟩ : St120).Oper_.W_), .int .i64 ((⟨x0⟩ : St120).Oper_.C_)]] []), (.int .u8 101, .fn (.func 103) [.agg [lsv (encI .u8) 1 ((⟨x0⟩ : St120).Oper_.I_), lsv (encI .u8) 1 ((⟨x0⟩ : St120).Oper_.F_), .int .i64 ((⟨x0⟩ : St120).Oper_.W_), .int .i64 ((⟨x0⟩ : St120).Oper_.C_)]] [])]]) [] (oper_asked__operands_s0_ok hy8) ?_
  refine kC 1 [4,5,14,15] ?_
  cases hb10 : (decide (x1 = 110))
  ·have h12 := condF hb10 h9
   have hn13 := of_decide_eq_false hb10
   cases hb17 : (decide (x1 = 105))
   ·have h19 := condF hb17 h12
    have hn20 := of_decide_eq_false hb17
    cases hb24 : (decide (x1 = 118))
    ·have h26 := condF hb24 h19
     have hn27 := of_decide_eq_false hb24
     cases hb31 : (decide (x1 = 119))
     ·have h33 := condF hb31 h26
      have hn34 := of_decide_eq_false hb31
      cases hb38 : (decide (x1 = 102))
      ·have h40 := condF hb38 h33
       have hn41 := of_decide_eq_false hb38
       cases hb45 : (decide (x1 = 116))
       ·have h47 := condF hb45 h40
        have hn48 := of_decide_eq_false hb45
        cases hb52 : (decide (x1 = 99))
        ·have h54 := condF hb52 h47
         have hn55 := of_decide_eq_false hb52
         cases hb59 : (decide (x1 = 101))
         ·have h61 := condF hb59 h54
          have hn62 := of_decide_eq_false hb59
          refine RJ.look (none) (d := some 16) (ef := ⟨.tup [.undef, .bool false], [1], []⟩) (c := missC (.int .u8 x1) [(.int .u8 110, .fn (.func 97) [.agg [lsv (encI .u8) 1 ((⟨x0⟩ : St120).Oper_.I_), lsv (encI .u8) 1 ((⟨x0⟩ : St120).Oper_.F_), .int .i64 ((⟨x0⟩ : St120).Oper_.W_), .int .i64 ((⟨x0⟩ : St120).Oper_.C_)]] []), (.int .u8 105, .fn (.func 98) [.agg [lsv (encI .u8) 1 ((⟨x0⟩ : St120).Oper_.I_), lsv (encI .u8) 1 ((⟨x0⟩ : St120).Oper_.F_), .int .i64 ((⟨x0⟩ : St120).Oper_.W_), .int .i64 ((⟨x0⟩ : St120).Oper_.C_)]] []), (.int .u8 118, .fn (.func 99) [.agg [lsv (encI .u8) 1 ((⟨x0⟩ : St120).Oper_.I_), lsv (encI .u8) 1 ((⟨x0⟩ : St120).Oper_.F_), .int .i64 ((⟨x0⟩ : St120).Oper_.W_), .int .i64 ((⟨x0⟩ : St120).Oper_.C_)]] []), (.int .u8 119, .fn (.func 100) [.agg [lsv (encI .u8) 1 ((⟨x0⟩ : St120).Oper_.I_), lsv (encI .u8) 1 ((⟨x0⟩ : St120).Oper_.F_), .int .i64 ((⟨x0⟩ : St120).Oper_.W_), .int .i64 ((⟨x0⟩ : St120).Oper_.C_)]] []), (.int .u8 102, .fn (.func 101) [.agg [lsv (encI .u8) 1 ((⟨x0⟩ : St120).Oper_.I_), lsv (encI .u8) 1 ((⟨x0⟩ : St120).Oper_.F_), .int .i64 ((⟨x0⟩ : St120).Oper_.W_), .int .i64 ((⟨x0⟩ : St120).Oper_.C_)]] []), (.int .u8 116, .fn (.func 102) [.agg [lsv (encI .u8) 1 ((⟨x0⟩ : St120).Oper_.I_), lsv (encI .u8) 1 ((⟨x0⟩ : St120).Oper_.F_), .int .i64 ((⟨x0⟩ : St120).Oper_.W_), .int .i64 ((⟨x0⟩ : St120).Oper_.C_)]] []), (.int .u8 99, .fn (.func 103) [.agg [lsv (encI .u8) 1 ((⟨x0⟩ : St120).Oper_.I_), lsv (encI .u8) 1 ((⟨x0⟩ : St120).Oper_.F_), .int .i64 ((⟨x0⟩ : St120).Oper_.W_), .int .i64 ((⟨x0⟩ : St120).Oper_.C_)]] []), (.int .u8 101, .fn (.func 103) [.agg [lsv (encI .u8) 1 ((⟨x0⟩ : St120).Oper_.I_), lsv (encI .u8) 1 ((⟨x0⟩ : St120).Oper_.F_), .int .i64 ((⟨x0⟩ : St120).Oper_.W_), .int .i64 ((⟨x0⟩ : St120).Oper_.C_)]] [])]) (tr2 := []) (by kernel_rfl) (by simp [hitC, missC, sameB, sameE, hn13, hn20, hn27, hn34, hn41, hn48, hn55, hn62]) ?_
          refine kC 5 [4,5,7] ?_
          refine kEN ?_
          refine kS ?_
          refine kSR ?_
          refine kC 2 [4,5,20] ?_
          refine kEN ?_
          refine kT ?_
          refine kSR ?_
          refine kC 2 [4,5] ?_
          refine kEN ?_
          refine kX ?_
          refine PJ.passRet ?_
          obtain rfl := oi h61
          refine PJ.res (v1 := .tup [.nl, .bool false]) (Le.tup (.cons (Le.nl _) (.cons (Le.refl _) .nil))) ?_
          exact kZ hFn hFH hFD
         ·have h60 := condT hb59 h54
          have hn62 := of_decide_eq_true hb59
          refine RJ.look (some 7) (d := some 16) (ef := ⟨.tup [.fn (.func 103) [.agg [lsv (encI .u8) 1 ((⟨x0⟩ : St120).Oper_.I_), lsv (encI .u8) 1 ((⟨x0⟩ : St120).Oper_.F_), .int .i64 ((⟨x0⟩ : St120).Oper_.W_), .int .i64 ((⟨x0⟩ : St120).Oper_.C_)]] [], .bool true], [1], []⟩) (c := hitC (.int .u8 x1) [(.int .u8 110, .fn (.func 97) [.agg [lsv (encI .u8) 1 ((⟨x0⟩ : St120).Oper_.I_), lsv (encI .u8) 1 ((⟨x0⟩ : St120).Oper_.F_), .int .i64 ((⟨x0⟩ : St120).Oper_.W_), .int .i64 ((⟨x0⟩ : St120).Oper_.C_)]] []), (.int .u8 105, .fn (.func 98) [.agg [lsv (encI .u8) 1 ((⟨x0⟩ : St120).Oper_.I_), lsv (encI .u8) 1 ((⟨x0⟩ : St120).Oper_.F_), .int .i64 ((⟨x0⟩ : St120).Oper_.W_), .int .i64 ((⟨x0⟩ : St120).Oper_.C_)]] []), (.int .u8 118, .fn (.func 99) [.agg [lsv (encI .u8) 1 ((⟨x0⟩ : St120).Oper_.I_), lsv (encI .u8) 1 ((⟨x0⟩ : St120).Oper_.F_), .int .i64 ((⟨x0⟩ : St120).Oper_.W_), .int .i64 ((⟨x0⟩ : St120).Oper_.C_)]] []), (.int .u8 119, .fn (.func 100) [.agg [lsv (encI .u8) 1 ((⟨x0⟩ : St120).Oper_.I_), lsv (encI .u8) 1 ((⟨x0⟩ : St120).Oper_.F_), .int .i64 ((⟨x0⟩ : St120).Oper_.W_), .int .i64 ((⟨x0⟩ : St120).Oper_.C_)]] []), (.int .u8 102, .fn (.func 101) [.agg [lsv (encI .u8) 1 ((⟨x0⟩ : St120).Oper_.I_), lsv (encI .u8) 1 ((⟨x0⟩ : St120).Oper_.F_), .int .i64 ((⟨x0⟩ : St120).Oper_.W_), .int .i64 ((⟨x0⟩ : St120).Oper_.C_)]] []), (.int .u8 116, .fn (.func 102) [.agg [lsv (encI .u8) 1 ((⟨x0⟩ : St120).Oper_.I_), lsv (encI .u8) 1 ((⟨x0⟩ : St120).Oper_.F_), .int .i64 ((⟨x0⟩ : St120).Oper_.W_), .int .i64 ((⟨x0⟩ : St120).Oper_.C_)]] []), (.int .u8 99, .fn (.func 103) [.agg [lsv (encI .u8) 1 ((⟨x0⟩ : St120).Oper_.I_), lsv (encI .u8) 1 ((⟨x0⟩ : St120).Oper_.F_), .int .i64 ((⟨x0⟩ : St120).Oper_.W_), .int .i64 ((⟨x0⟩ : St120).Oper_.C_)]] []), (.int .u8 101, .fn (.func 103) [.agg [lsv (encI .u8) 1 ((⟨x0⟩ : St120).Oper_.I_), lsv (encI .u8) 1 ((⟨x0⟩ : St120).Oper_.F_), .int .i64 ((⟨x0⟩ : St120).Oper_.W_), .int .i64 ((⟨x0⟩ : St120).Oper_.C_)]] [])] 7) (tr2 := []) (by kernel_rfl) (by simp [hitC, missC, sameB, sameE, hn13, hn20, hn27, hn34, hn41, hn48, hn55, hn62]) ?_
          refine kC 5 [4,5,6,7] ?_
          refine kEN ?_
          refine kS ?_
          refine kSR ?_
          refine kC 2 [4,5,6,20] ?_
          refine kEN ?_
          refine kF ?_
          refine kK ?_
          refine PJ.next ?_
          refine kSR ?_
          refine kC 1 [4,5,21] ?_
          obtain ⟨y63, hy64, h65⟩ := bindS h60
          refine kA 22 (oper_asked__power_ok hy64) ?_
          refine RJ.seg 4 [4, 5] (L2 := [(4, lsv (encI .u8) 1 y63.1), (5, .bool y63.2)]) (H2 := [.box (encSt33 x0), .map [(.int .u8 110, .fn (.func 97) [.agg [lsv (encI .u8) 1 ((⟨x0⟩ : St120).Oper_.I_), lsv (encI .u8) 1 ((⟨x0⟩ : St120).Oper_.F_), .int .i64 ((⟨x0⟩ : St120).Oper_.W_), .int .i64 ((⟨x0⟩ : St120).Oper_.C_)]] []), (.int .u8 105, .fn (.func 98) [.agg [lsv (encI .u8) 1 ((⟨x0⟩ : St120).Oper_.I_), lsv (encI .u8) 1 ((⟨x0⟩ : St120).Oper_.F_), .int .i64 ((⟨x0⟩ : St120).Oper_.W_), .int .i64 ((⟨x0⟩ : St120).Oper_.C_)]] []), (.int .u8 118, .fn (.func 99) [.agg [lsv (encI .u8) 1 ((⟨x0⟩ : St120).Oper_.I_), lsv (encI .u8) 1 ((⟨x0⟩ : St120).Oper_.F_), .int .i64 ((⟨x0⟩ : St120).Oper_.W_), .int .i64 ((⟨x0⟩ : St120).Oper_.C_)]] []), (.int .u8 119, .fn (.func 100) [.agg [lsv (encI .u8) 1 ((⟨x0⟩ : St120).Oper_.I_), lsv (encI .u8) 1 ((⟨x0⟩ : St120).Oper_.F_), .int .i64 ((⟨x0⟩ : St120).Oper_.W_), .int .i64 ((⟨x0⟩ : St120).Oper_.C_)]] []), (.int .u8 102, .fn (.func 101) [.agg [lsv (encI .u8) 1 ((⟨x0⟩ : St120).Oper_.I_), lsv (encI .u8) 1 ((⟨x0⟩ : St120).Oper_.F_), .int .i64 ((⟨x0⟩ : St120).Oper_.W_), .int .i64 ((⟨x0⟩ : St120).Oper_.C_)]] []), (.int .u8 116, .fn (.func 102) [.agg [lsv (encI .u8) 1 ((⟨x0⟩ : St120).Oper_.I_), lsv (encI .u8) 1 ((⟨x0⟩ : St120).Oper_.F_), .int .i64 ((⟨x0⟩ : St120).Oper_.W_), .int .i64 ((⟨x0⟩ : St120).Oper_.C_)]] []), (.int .u8 99, .fn (.func 103) [.agg [lsv (encI .u8) 1 ((⟨x0⟩ : St120).Oper_.I_), lsv (encI .u8) 1 ((⟨x0⟩ : St120).Oper_.F_), .int .i64 ((⟨x0⟩ : St120).Oper_.W_), .int .i64 ((⟨x0⟩ : St120).Oper_.C_)]] []), (.int .u8 101, .fn (.func 103) [.agg [lsv (encI .u8) 1 ((⟨x0⟩ : St120).Oper_.I_), lsv (encI .u8) 1 ((⟨x0⟩ : St120).Oper_.F_), .int .i64 ((⟨x0⟩ : St120).Oper_.W_), .int .i64 ((⟨x0⟩ : St120).Oper_.C_)]] [])]]) (by kernel_rfl) ?_
          refine kEN ?_
          refine kX ?_
          obtain rfl := oi h65
          exact kZ hFn hFH hFD
        ·have h53 := condT hb52 h47
         have hn55 := of_decide_eq_true hb52
         refine RJ.look (some 6) (d := some 16) (ef := ⟨.tup [.fn (.func 103) [.agg [lsv (encI .u8) 1 ((⟨x0⟩ : St120).Oper_.I_), lsv (encI .u8) 1 ((⟨x0⟩ : St120).Oper_.F_), .int .i64 ((⟨x0⟩ : St120).Oper_.W_), .int .i64 ((⟨x0⟩ : St120).Oper_.C_)]] [], .bool true], [1], []⟩) (c := hitC (.int .u8 x1) [(.int .u8 110, .fn (.func 97) [.agg [lsv (encI .u8) 1 ((⟨x0⟩ : St120).Oper_.I_), lsv (encI .u8) 1 ((⟨x0⟩ : St120).Oper_.F_), .int .i64 ((⟨x0⟩ : St120).Oper_.W_), .int .i64 ((⟨x0⟩ : St120).Oper_.C_)]] []), (.int .u8 105, .fn (.func 98) [.agg [lsv (encI .u8) 1 ((⟨x0⟩ : St120).Oper_.I_), lsv (encI .u8) 1 ((⟨x0⟩ : St120).Oper_.F_), .int .i64 ((⟨x0⟩ : St120).Oper_.W_), .int .i64 ((⟨x0⟩ : St120).Oper_.C_)]] []), (.int .u8 118, .fn (.func 99) [.agg [lsv (encI .u8) 1 ((⟨x0⟩ : St120).Oper_.I_), lsv (encI .u8) 1 ((⟨x0⟩ : St120).Oper_.F_), .int .i64 ((⟨x0⟩ : St120).Oper_.W_), .int .i64 ((⟨x0⟩ : St120).Oper_.C_)]] []), (.int .u8 119, .fn (.func 100) [.agg [lsv (encI .u8) 1 ((⟨x0⟩ : St120).Oper_.I_), lsv (encI .u8) 1 ((⟨x0⟩ : St120).Oper_.F_), .int .i64 ((⟨x0⟩ : St120).Oper_.W_), .int .i64 ((⟨x0⟩ : St120).Oper_.C_)]] []), (.int .u8 102, .fn (.func 101) [.agg [lsv (encI .u8) 1 ((⟨x0⟩ : St120).Oper_.I_), lsv (encI .u8) 1 ((⟨x0⟩ : St120).Oper_.F_), .int .i64 ((⟨x0⟩ : St120).Oper_.W_), .int .i64 ((⟨x0⟩ : St120).Oper_.C_)]] []), (.int .u8 116, .fn (.func 102) [.agg [lsv (encI .u8) 1 ((⟨x0⟩ : St120).Oper_.I_), lsv (encI .u8) 1 ((⟨x0⟩ : St120).Oper_.F_), .int .i64 ((⟨x0⟩ : St120).Oper_.W_), .int .i64 ((⟨x0⟩ : St120).Oper_.C_)]] []), (.int .u8 99, .fn (.func 103) [.agg [lsv (encI .u8) 1 ((⟨x0⟩ : St120).Oper_.I_), lsv (encI .u8) 1 ((⟨x0⟩ : St120).Oper_.F_), .int .i64 ((⟨x0⟩ : St120).Oper_.W_), .int .i64 ((⟨x0⟩ : St120).Oper_.C_)]] []), (.int .u8 101, .fn (.func 103) [.agg [lsv (encI .u8) 1 ((⟨x0⟩ : St120).Oper_.I_), lsv (encI .u8) 1 ((⟨x0⟩ : St120).Oper_.F_), .int .i64 ((⟨x0⟩ : St120).Oper_.W_), .int .i64 ((⟨x0⟩ : St120).Oper_.C_)]] [])] 6) (tr2 := []) (by kernel_rfl) (by simp [hitC, missC, sameB, sameE, hn13, hn20, hn27, hn34, hn41, hn48, hn55]) ?_
         refine kC 5 [4,5,6,7] ?_
         refine kEN ?_
         refine kS ?_
         refine kSR ?_
         refine kC 2 [4,5,6,20] ?_
         refine kEN ?_
         refine kF ?_
         refine kK ?_
         refine PJ.next ?_
         refine kSR ?_
         refine kC 1 [4,5,21] ?_
         obtain ⟨y56, hy57, h58⟩ := bindS h53
         refine kA 22 (oper_asked__power_ok hy57) ?_
         refine RJ.seg 4 [4, 5] (L2 := [(4, lsv (encI .u8) 1 y56.1), (5, .bool y56.2)]) (H2 := [.box (encSt33 x0), .map [(.int .u8 110, .fn (.func 97) [.agg [lsv (encI .u8) 1 ((⟨x0⟩ : St120).Oper_.I_), lsv (encI .u8) 1 ((⟨x0⟩ : St120).Oper_.F_), .int .i64 ((⟨x0⟩ : St120).Oper_.W_), .int .i64 ((⟨x0⟩ : St120).Oper_.C_)]] []), (.int .u8 105, .fn (.func 98) [.agg [lsv (encI .u8) 1 ((⟨x0⟩ : St120).Oper_.I_), lsv (encI .u8) 1 ((⟨x0⟩ : St120).Oper_.F_), .int .i64 ((⟨x0⟩ : St120).Oper_.W_), .int .i64 ((⟨x0⟩ : St120).Oper_.C_)]] []), (.int .u8 118, .fn (.func 99) [.agg [lsv (encI .u8) 1 ((⟨x0⟩ : St120).Oper_.I_), lsv (encI .u8) 1 ((⟨x0⟩ : St120).Oper_.F_), .int .i64 ((⟨x0⟩ : St120).Oper_.W_), .int .i64 ((⟨x0⟩ : St120).Oper_.C_)]] []), (.int .u8 119, .fn (.func 100) [.agg [lsv (encI .u8) 1 ((⟨x0⟩ : St120).Oper_.I_), lsv (encI .u8) 1 ((⟨x0⟩ : St120).Oper_.F_), .int .i64 ((⟨x0⟩ : St120).Oper_.W_), .int .i64 ((⟨x0⟩ : St120).Oper_.C_)]] []), (.int .u8 102, .fn (.func 101) [.agg [lsv (encI .u8) 1 ((⟨x0⟩ : St120).Oper_.I_), lsv (encI .u8) 1 ((⟨x0⟩ : St120).Oper_.F_), .int .i64 ((⟨x0⟩ : St120).Oper_.W_), .int .i64 ((⟨x0⟩ : St120).Oper_.C_)]] []), (.int .u8 116, .fn (.func 102) [.agg [lsv (encI .u8) 1 ((⟨x0⟩ : St120).Oper_.I_), lsv (encI .u8) 1 ((⟨x0⟩ : St120).Oper_.F_), .int .i64 ((⟨x0⟩ : St120).Oper_.W_), .int .i64 ((⟨x0⟩ : St120).Oper_.C_)]] []), (.int .u8 99, .fn (.func 103) [.agg [lsv (encI .u8) 1 ((⟨x0⟩ : St120).Oper_.I_), lsv (encI .u8) 1 ((⟨x0⟩ : St120).Oper_.F_), .int .i64 ((⟨x0⟩ : St120).Oper_.W_), .int .i64 ((⟨x0⟩ : St120).Oper_.C_)]] []), (.int .u8 101, .fn (.func 103) [.agg [lsv (encI .u8) 1 ((⟨x0⟩ : St120).Oper_.I_), lsv (encI .u8) 1 ((⟨x0⟩ : St120).Oper_.F_), .int .i64 ((⟨x0⟩ : St120).Oper_.W_), .int .i64 ((⟨x0⟩ : St120).Oper_.C_)]] [])]]) (by kernel_rfl) ?_
         refine kEN ?_
         refine kX ?_
         obtain rfl := oi h58
         exact kZ hFn hFH hFD
       ·have h46 := condT hb45 h40
        have hn48 := of_decide_eq_true hb45
        refine RJ.look (some 5) (d := some 16) (ef := ⟨.tup [.fn (.func 102) [.agg [lsv (encI .u8) 1 ((⟨x0⟩ : St120).Oper_.I_), lsv (encI .u8) 1 ((⟨x0⟩ : St120).Oper_.F_), .int .i64 ((⟨x0⟩ : St120).Oper_.W_), .int .i64 ((⟨x0⟩ : St120).Oper_.C_)]] [], .bool true], [1], []⟩) (c := hitC (.int .u8 x1) [(.int .u8 110, .fn (.func 97) [.agg [lsv (encI .u8) 1 ((⟨x0⟩ : St120).Oper_.I_), lsv (encI .u8) 1 ((⟨x0⟩ : St120).Oper_.F_), .int .i64 ((⟨x0⟩ : St120).Oper_.W_), .int .i64 ((⟨x0⟩ : St120).Oper_.C_)]] []), (.int .u8 105, .fn (.func 98) [.agg [lsv (encI .u8) 1 ((⟨x0⟩ : St120).Oper_.I_), lsv (encI .u8) 1 ((⟨x0⟩ : St120).Oper_.F_), .int .i64 ((⟨x0⟩ : St120).Oper_.W_), .int .i64 ((⟨x0⟩ : St120).Oper_.C_)]] []), (.int .u8 118, .fn (.func 99) [.agg [lsv (encI .u8) 1 ((⟨x0⟩ : St120).Oper_.I_), lsv (encI .u8) 1 ((⟨x0⟩ : St120).Oper_.F_), .int .i64 ((⟨x0⟩ : St120).Oper_.W_), .int .i64 ((⟨x0⟩ : St120).Oper_.C_)]] []), (.int .u8 119, .fn (.func 100) [.agg [lsv (encI .u8) 1 ((⟨x0⟩ : St120).Oper_.I_), lsv (encI .u8) 1 ((⟨x0⟩ : St120).Oper_.F_), .int .i64 ((⟨x0⟩ : St120).Oper_.W_), .int .i64 ((⟨x0⟩ : St120).Oper_.C_)]] []), (.int .u8 102, .fn (.func 101) [.agg [lsv (encI .u8) 1 ((⟨x0⟩ : St120).Oper_.I_), lsv (encI .u8) 1 ((⟨x0⟩ : St120).Oper_.F_), .int .i64 ((⟨x0⟩ : St120).Oper_.W_), .int .i64 ((⟨x0⟩ : St120).Oper_.C_)]] []), (.int .u8 116, .fn (.func 102) [.agg [lsv (encI .u8) 1 ((⟨x0⟩ : St120).Oper_.I_), lsv (encI .u8) 1 ((⟨x0⟩ : St120).Oper_.F_), .int .i64 ((⟨x0⟩ : St120).Oper_.W_), .int .i64 ((⟨x0⟩ : St120).Oper_.C_)]] []), (.int .u8 99, .fn (.func 103) [.agg [lsv (encI .u8) 1 ((⟨x0⟩ : St120).Oper_.I_), lsv (encI .u8) 1 ((⟨x0⟩ : St120).Oper_.F_), .int .i64 ((⟨x0⟩ : St120).Oper_.W_), .int .i64 ((⟨x0⟩ : St120).Oper_.C_)]] []), (.int .u8 101, .fn (.func 103) [.agg [lsv (encI .u8) 1 ((⟨x0⟩ : St120).Oper_.I_), lsv (encI .u8) 1 ((⟨x0⟩ : St120).Oper_.F_), .int .i64 ((⟨x0⟩ : St120).Oper_.W_), .int .i64 ((⟨x0⟩ : St120).Oper_.C_)]] [])] 5) (tr2 := []) (by kernel_rfl) (by simp [hitC, missC, sameB, sameE, hn13, hn20, hn27, hn34, hn41, hn48]) ?_
        refine kC 5 [4,5,6,7] ?_
        refine kEN ?_
        refine kS ?_
        refine kSR ?_
        refine kC 2 [4,5,6,20] ?_
        refine kEN ?_
        refine kF ?_
        refine kK ?_
        refine PJ.next ?_
        refine kSR ?_
        refine kC 1 [4,5,21] ?_
        obtain ⟨y49, hy50, h51⟩ := bindS h46
        refine kA 22 (oper_asked__cut_ok hy50) ?_
        refine RJ.seg 4 [4, 5] (L2 := [(4, lsv (encI .u8) 1 y49.1), (5, .bool y49.2)]) (H2 := [.box (encSt33 x0), .map [(.int .u8 110, .fn (.func 97) [.agg [lsv (encI .u8) 1 ((⟨x0⟩ : St120).Oper_.I_), lsv (encI .u8) 1 ((⟨x0⟩ : St120).Oper_.F_), .int .i64 ((⟨x0⟩ : St120).Oper_.W_), .int .i64 ((⟨x0⟩ : St120).Oper_.C_)]] []), (.int .u8 105, .fn (.func 98) [.agg [lsv (encI .u8) 1 ((⟨x0⟩ : St120).Oper_.I_), lsv (encI .u8) 1 ((⟨x0⟩ : St120).Oper_.F_), .int .i64 ((⟨x0⟩ : St120).Oper_.W_), .int .i64 ((⟨x0⟩ : St120).Oper_.C_)]] []), (.int .u8 118, .fn (.func 99) [.agg [lsv (encI .u8) 1 ((⟨x0⟩ : St120).Oper_.I_), lsv (encI .u8) 1 ((⟨x0⟩ : St120).Oper_.F_), .int .i64 ((⟨x0⟩ : St120).Oper_.W_), .int .i64 ((⟨x0⟩ : St120).Oper_.C_)]] []), (.int .u8 119, .fn (.func 100) [.agg [lsv (encI .u8) 1 ((⟨x0⟩ : St120).Oper_.I_), lsv (encI .u8) 1 ((⟨x0⟩ : St120).Oper_.F_), .int .i64 ((⟨x0⟩ : St120).Oper_.W_), .int .i64 ((⟨x0⟩ : St120).Oper_.C_)]] []), (.int .u8 102, .fn (.func 101) [.agg [lsv (encI .u8) 1 ((⟨x0⟩ : St120).Oper_.I_), lsv (encI .u8) 1 ((⟨x0⟩ : St120).Oper_.F_), .int .i64 ((⟨x0⟩ : St120).Oper_.W_), .int .i64 ((⟨x0⟩ : St120).Oper_.C_)]] []), (.int .u8 116, .fn (.func 102) [.agg [lsv (encI .u8) 1 ((⟨x0⟩ : St120).Oper_.I_), lsv (encI .u8) 1 ((⟨x0⟩ : St120).Oper_.F_), .int .i64 ((⟨x0⟩ : St120).Oper_.W_), .int .i64 ((⟨x0⟩ : St120).Oper_.C_)]] []), (.int .u8 99, .fn (.func 103) [.agg [lsv (encI .u8) 1 ((⟨x0⟩ : St120).Oper_.I_), lsv (encI .u8) 1 ((⟨x0⟩ : St120).Oper_.F_), .int .i64 ((⟨x0⟩ : St120).Oper_.W_), .int .i64 ((⟨x0⟩ : St120).Oper_.C_)]] []), (.int .u8 101, .fn (.func 103) [.agg [lsv (encI .u8) 1 ((⟨x0⟩ : St120).Oper_.I_), lsv (encI .u8) 1 ((⟨x0⟩ : St120).Oper_.F_), .int .i64 ((⟨x0⟩ : St120).Oper_.W_), .int .i64 ((⟨x0⟩ : St120).Oper_.C_)]] [])]]) (by kernel_rfl) ?_
        refine kEN ?_
        refine kX ?_
        obtain rfl := oi h51
        exact kZ hFn hFH hFD
      ·have h39 := condT hb38 h33
       have hn41 := of_decide_eq_true hb38
       refine RJ.look (some 4) (d := some 16) (ef := ⟨.tup [.fn (.func 101) [.agg [lsv (encI .u8) 1 ((⟨x0⟩ : St120).Oper_.I_), lsv (encI .u8) 1 ((⟨x0⟩ : St120).Oper_.F_), .int .i64 ((⟨x0⟩ : St120).Oper_.W_), .int .i64 ((⟨x0⟩ : St120).Oper_.C_)]] [], .bool true], [1], []⟩) (c := hitC (.int .u8 x1) [(.int .u8 110, .fn (.func 97) [.agg [lsv (encI .u8) 1 ((⟨x0⟩ : St120).Oper_.I_), lsv (encI .u8) 1 ((⟨x0⟩ : St120).Oper_.F_), .int .i64 ((⟨x0⟩ : St120).Oper_.W_), .int .i64 ((⟨x0⟩ : St120).Oper_.C_)]] []), (.int .u8 105, .fn (.func 98) [.agg [lsv (encI .u8) 1 ((⟨x0⟩ : St120).Oper_.I_), lsv (encI .u8) 1 ((⟨x0⟩ : St120).Oper_.F_), .int .i64 ((⟨x0⟩ : St120).Oper_.W_), .int .i64 ((⟨x0⟩ : St120).Oper_.C_)]] []), (.int .u8 118, .fn (.func 99) [.agg [lsv (encI .u8) 1 ((⟨x0⟩ : St120).Oper_.I_), lsv (encI .u8) 1 ((⟨x0⟩ : St120).Oper_.F_), .int .i64 ((⟨x0⟩ : St120).Oper_.W_), .int .i64 ((⟨x0⟩ : St120).Oper_.C_)]] []), (.int .u8 119, .fn (.func 100) [.agg [lsv (encI .u8) 1 ((⟨x0⟩ : St120).Oper_.I_), lsv (encI .u8) 1 ((⟨x0⟩ : St120).Oper_.F_), .int .i64 ((⟨x0⟩ : St120).Oper_.W_), .int .i64 ((⟨x0⟩ : St120).Oper_.C_)]] []), (.int .u8 102, .fn (.func 101) [.agg [lsv (encI .u8) 1 ((⟨x0⟩ : St120).Oper_.I_), lsv (encI .u8) 1 ((⟨x0⟩ : St120).Oper_.F_), .int .i64 ((⟨x0⟩ : St120).Oper_.W_), .int .i64 ((⟨x0⟩ : St120).Oper_.C_)]] []), (.int .u8 116, .fn (.func 102) [.agg [lsv (encI .u8) 1 ((⟨x0⟩ : St120).Oper_.I_), lsv (encI .u8) 1 ((⟨x0⟩ : St120).Oper_.F_), .int .i64 ((⟨x0⟩ : St120).Oper_.W_), .int .i64 ((⟨x0⟩ : St120).Oper_.C_)]] []), (.int .u8 99, .fn (.func 103) [.agg [lsv (encI .u8) 1 ((⟨x0⟩ : St120).Oper_.I_), lsv (encI .u8) 1 ((⟨x0⟩ : St120).Oper_.F_), .int .i64 ((⟨x0⟩ : St120).Oper_.W_), .int .i64 ((⟨x0⟩ : St120).Oper_.C_)]] []), (.int .u8 101, .fn (.func 103) [.agg [lsv (encI .u8) 1 ((⟨x0⟩ : St120).Oper_.I_), lsv (encI .u8) 1 ((⟨x0⟩ : St120).Oper_.F_), .int .i64 ((⟨x0⟩ : St120).Oper_.W_), .int .i64 ((⟨x0⟩ : St120).Oper_.C_)]] [])] 4) (tr2 := []) (by kernel_rfl) (by simp [hitC, missC, sameB, sameE, hn13, hn20, hn27, hn34, hn41]) ?_
       refine kC 5 [4,5,6,7] ?_
       refine kEN ?_
       refine kS ?_
       refine kSR ?_
       refine kC 2 [4,5,6,20] ?_
       refine kEN ?_
       refine kF ?_
       refine kK ?_
       refine PJ.next ?_
       refine kSR ?_
       refine kC 1 [4,5,21] ?_
       obtain ⟨y42, hy43, h44⟩ := bindS h39
       refine kA 22 (oper_asked__part_ok hy43) ?_
       refine RJ.seg 4 [4, 5] (L2 := [(4, lsv (encI .u8) 1 y42.1), (5, .bool y42.2)]) (H2 := [.box (encSt33 x0), .map [(.int .u8 110, .fn (.func 97) [.agg [lsv (encI .u8) 1 ((⟨x0⟩ : St120).Oper_.I_), lsv (encI .u8) 1 ((⟨x0⟩ : St120).Oper_.F_), .int .i64 ((⟨x0⟩ : St120).Oper_.W_), .int .i64 ((⟨x0⟩ : St120).Oper_.C_)]] []), (.int .u8 105, .fn (.func 98) [.agg [lsv (encI .u8) 1 ((⟨x0⟩ : St120).Oper_.I_), lsv (encI .u8) 1 ((⟨x0⟩ : St120).Oper_.F_), .int .i64 ((⟨x0⟩ : St120).Oper_.W_), .int .i64 ((⟨x0⟩ : St120).Oper_.C_)]] []), (.int .u8 118, .fn (.func 99) [.agg [lsv (encI .u8) 1 ((⟨x0⟩ : St120).Oper_.I_), lsv (encI .u8) 1 ((⟨x0⟩ : St120).Oper_.F_), .int .i64 ((⟨x0⟩ : St120).Oper_.W_), .int .i64 ((⟨x0⟩ : St120).Oper_.C_)]] []), (.int .u8 119, .fn (.func 100) [.agg [lsv (encI .u8) 1 ((⟨x0⟩ : St120).Oper_.I_), lsv (encI .u8) 1 ((⟨x0⟩ : St120).Oper_.F_), .int .i64 ((⟨x0⟩ : St120).Oper_.W_), .int .i64 ((⟨x0⟩ : St120).Oper_.C_)]] []), (.int .u8 102, .fn (.func 101) [.agg [lsv (encI .u8) 1 ((⟨x0⟩ : St120).Oper_.I_), lsv (encI .u8) 1 ((⟨x0⟩ : St120).Oper_.F_), .int .i64 ((⟨x0⟩ : St120).Oper_.W_), .int .i64 ((⟨x0⟩ : St120).Oper_.C_)]] []), (.int .u8 116, .fn (.func 102) [.agg [lsv (encI .u8) 1 ((⟨x0⟩ : St120).Oper_.I_), lsv (encI .u8) 1 ((⟨x0⟩ : St120).Oper_.F_), .int .i64 ((⟨x0⟩ : St120).Oper_.W_), .int .i64 ((⟨x0⟩ : St120).Oper_.C_)]] []), (.int .u8 99, .fn (.func 103) [.agg [lsv (encI .u8) 1 ((⟨x0⟩ : St120).Oper_.I_), lsv (encI .u8) 1 ((⟨x0⟩ : St120).Oper_.F_), .int .i64 ((⟨x0⟩ : St120).Oper_.W_), .int .i64 ((⟨x0⟩ : St120).Oper_.C_)]] []), (.int .u8 101, .fn (.func 103) [.agg [lsv (encI .u8) 1 ((⟨x0⟩ : St120).Oper_.I_), lsv (encI .u8) 1 ((⟨x0⟩ : St120).Oper_.F_), .int .i64 ((⟨x0⟩ : St120).Oper_.W_), .int .i64 ((⟨x0⟩ : St120).Oper_.C_)]] [])]]) (by kernel_rfl) ?_
       refine kEN ?_
       refine kX ?_
       obtain rfl := oi h44
       exact kZ hFn hFH hFD
     ·have h32 := condT hb31 h26
      have hn34 := of_decide_eq_true hb31
      refine RJ.look (some 3) (d := some 16) (ef := ⟨.tup [.fn (.func 100) [.agg [lsv (encI .u8) 1 ((⟨x0⟩ : St120).Oper_.I_), lsv (encI .u8) 1 ((⟨x0⟩ : St120).Oper_.F_), .int .i64 ((⟨x0⟩ : St120).Oper_.W_), .int .i64 ((⟨x0⟩ : St120).Oper_.C_)]] [], .bool true], [1], []⟩) (c := hitC (.int .u8 x1) [(.int .u8 110, .fn (.func 97) [.agg [lsv (encI .u8) 1 ((⟨x0⟩ : St120).Oper_.I_), lsv (encI .u8) 1 ((⟨x0⟩ : St120).Oper_.F_), .int .i64 ((⟨x0⟩ : St120).Oper_.W_), .int .i64 ((⟨x0⟩ : St120).Oper_.C_)]] []), (.int .u8 105, .fn (.func 98) [.agg [lsv (encI .u8) 1 ((⟨x0⟩ : St120).Oper_.I_), lsv (encI .u8) 1 ((⟨x0⟩ : St120).Oper_.F_), .int .i64 ((⟨x0⟩ : St120).Oper_.W_), .int .i64 ((⟨x0⟩ : St120).Oper_.C_)]] []), (.int .u8 118, .fn (.func 99) [.agg [lsv (encI .u8) 1 ((⟨x0⟩ : St120).Oper_.I_), lsv (encI .u8) 1 ((⟨x0⟩ : St120).Oper_.F_), .int .i64 ((⟨x0⟩ : St120).Oper_.W_), .int .i64 ((⟨x0⟩ : St120).Oper_.C_)]] []), (.int .u8 119, .fn (.func 100) [.agg [lsv (encI .u8) 1 ((⟨x0⟩ : St120).Oper_.I_), lsv (encI .u8) 1 ((⟨x0⟩ : St120).Oper_.F_), .int .i64 ((⟨x0⟩ : St120).Oper_.W_), .int .i64 ((⟨x0⟩ : St120).Oper_.C_)]] []), (.int .u8 102, .fn (.func 101) [.agg [lsv (encI .u8) 1 ((⟨x0⟩ : St120).Oper_.I_), lsv (encI .u8) 1 ((⟨x0⟩ : St120).Oper_.F_), .int .i64 ((⟨x0⟩ : St120).Oper_.W_), .int .i64 ((⟨x0⟩ : St120).Oper_.C_)]] []), (.int .u8 116, .fn (.func 102) [.agg [lsv (encI .u8) 1 ((⟨x0⟩ : St120).Oper_.I_), lsv (encI .u8) 1 ((⟨x0⟩ : St120).Oper_.F_), .int .i64 ((⟨x0⟩ : St120).Oper_.W_), .int .i64 ((⟨x0⟩ : St120).Oper_.C_)]] []), (.int .u8 99, .fn (.func 103) [.agg [lsv (encI .u8) 1 ((⟨x0⟩ : St120).Oper_.I_), lsv (encI .u8) 1 ((⟨x0⟩ : St120).Oper_.F_), .int .i64 ((⟨x0⟩ : St120).Oper_.W_), .int .i64 ((⟨x0⟩ : St120).Oper_.C_)]] []), (.int .u8 101, .fn (.func 103) [.agg [lsv (encI .u8) 1 ((⟨x0⟩ : St120).Oper_.I_), lsv (encI .u8) 1 ((⟨x0⟩ : St120).Oper_.F_), .int .i64 ((⟨x0⟩ : St120).Oper_.W_), .int .i64 ((⟨x0⟩ : St120).Oper_.C_)]] [])] 3) (tr2 := []) (by kernel_rfl) (by simp [hitC, missC, sameB, sameE, hn13, hn20, hn27, hn34]) ?_
      refine kC 5 [4,5,6,7] ?_
      refine kEN ?_
      refine kS ?_
      refine kSR ?_
      refine kC 2 [4,5,6,20] ?_
      refine kEN ?_
      refine kF ?_
      refine kK ?_
      refine PJ.next ?_
      refine kSR ?_
      refine kC 1 [4,5,21] ?_
      obtain ⟨y35, hy36, h37⟩ := bindS h32
      refine kA 22 (oper_asked__short_ok hy36) ?_
      refine RJ.seg 4 [4, 5] (L2 := [(4, lsv (encI .u8) 1 y35.1), (5, .bool y35.2)]) (H2 := [.box (encSt33 x0), .map [(.int .u8 110, .fn (.func 97) [.agg [lsv (encI .u8) 1 ((⟨x0⟩ : St120).Oper_.I_), lsv (encI .u8) 1 ((⟨x0⟩ : St120).Oper_.F_), .int .i64 ((⟨x0⟩ : St120).Oper_.W_), .int .i64 ((⟨x0⟩ : St120).Oper_.C_)]] []), (.int .u8 105, .fn (.func 98) [.agg [lsv (encI .u8) 1 ((⟨x0⟩ : St120).Oper_.I_), lsv (encI .u8) 1 ((⟨x0⟩ : St120).Oper_.F_), .int .i64 ((⟨x0⟩ : St120).Oper_.W_), .int .i64 ((⟨x0⟩ : St120).Oper_.C_)]] []), (.int .u8 118, .fn (.func 99) [.agg [lsv (encI .u8) 1 ((⟨x0⟩ : St120).Oper_.I_), lsv (encI .u8) 1 ((⟨x0⟩ : St120).Oper_.F_), .int .i64 ((⟨x0⟩ : St120).Oper_.W_), .int .i64 ((⟨x0⟩ : St120).Oper_.C_)]] []), (.int .u8 119, .fn (.func 100) [.agg [lsv (encI .u8) 1 ((⟨x0⟩ : St120).Oper_.I_), lsv (encI .u8) 1 ((⟨x0⟩ : St120).Oper_.F_), .int .i64 ((⟨x0⟩ : St120).Oper_.W_), .int .i64 ((⟨x0⟩ : St120).Oper_.C_)]] []), (.int .u8 102, .fn (.func 101) [.agg [lsv (encI .u8) 1 ((⟨x0⟩ : St120).Oper_.I_), lsv (encI .u8) 1 ((⟨x0⟩ : St120).Oper_.F_), .int .i64 ((⟨x0⟩ : St120).Oper_.W_), .int .i64 ((⟨x0⟩ : St120).Oper_.C_)]] []), (.int .u8 116, .fn (.func 102) [.agg [lsv (encI .u8) 1 ((⟨x0⟩ : St120).Oper_.I_), lsv (encI .u8) 1 ((⟨x0⟩ : St120).Oper_.F_), .int .i64 ((⟨x0⟩ : St120).Oper_.W_), .int .i64 ((⟨x0⟩ : St120).Oper_.C_)]] []), (.int .u8 99, .fn (.func 103) [.agg [lsv (encI .u8) 1 ((⟨x0⟩ : St120).Oper_.I_), lsv (encI .u8) 1 ((⟨x0⟩ : St120).Oper_.F_), .int .i64 ((⟨x0⟩ : St120).Oper_.W_), .int .i64 ((⟨x0⟩ : St120).Oper_.C_)]] []), (.int .u8 101, .fn (.func 103) [.agg [lsv (encI .u8) 1 ((⟨x0⟩ : St120).Oper_.I_), lsv (encI .u8) 1 ((⟨x0⟩ : St120).Oper_.F_), .int .i64 ((⟨x0⟩ : St120).Oper_.W_), .int .i64 ((⟨x0⟩ : St120).Oper_.C_)]] [])]]) (by kernel_rfl) ?_
      refine kEN ?_
      refine kX ?_
      obtain rfl := oi h37
      exact kZ hFn hFH hFD
    ·have h25 := condT hb24 h19
     have hn27 := of_decide_eq_true hb24
     refine RJ.look (some 2) (d := some 16) (ef := ⟨.tup [.fn (.func 99) [.agg [lsv (encI .u8) 1 ((⟨x0⟩ : St120).Oper_.I_), lsv (encI .u8) 1 ((⟨x0⟩ : St120).Oper_.F_), .int .i64 ((⟨x0⟩ : St120).Oper_.W_), .int .i64 ((⟨x0⟩ : St120).Oper_.C_)]] [], .bool true], [1], []⟩) (c := hitC (.int .u8 x1) [(.int .u8 110, .fn (.func 97) [.agg [lsv (encI .u8) 1 ((⟨x0⟩ : St120).Oper_.I_), lsv (encI .u8) 1 ((⟨x0⟩ : St120).Oper_.F_), .int .i64 ((⟨x0⟩ : St120).Oper_.W_), .int .i64 ((⟨x0⟩ : St120).Oper_.C_)]] []), (.int .u8 105, .fn (.func 98) [.agg [lsv (encI .u8) 1 ((⟨x0⟩ : St120).Oper_.I_), lsv (encI .u8) 1 ((⟨x0⟩ : St120).Oper_.F_), .int .i64 ((⟨x0⟩ : St120).Oper_.W_), .int .i64 ((⟨x0⟩ : St120).Oper_.C_)]] []), (.int .u8 118, .fn (.func 99) [.agg [lsv (encI .u8) 1 ((⟨x0⟩ : St120).Oper_.I_), lsv (encI .u8) 1 ((⟨x0⟩ : St120).Oper_.F_), .int .i64 ((⟨x0⟩ : St120).Oper_.W_), .int .i64 ((⟨x0⟩ : St120).Oper_.C_)]] []), (.int .u8 119, .fn (.func 100) [.agg [lsv (encI .u8) 1 ((⟨x0⟩ : St120).Oper_.I_), lsv (encI .u8) 1 ((⟨x0⟩ : St120).Oper_.F_), .int .i64 ((⟨x0⟩ : St120).Oper_.W_), .int .i64 ((⟨x0⟩ : St120).Oper_.C_)]] []), (.int .u8 102, .fn (.func 101) [.agg [lsv (encI .u8) 1 ((⟨x0⟩ : St120).Oper_.I_), lsv (encI .u8) 1 ((⟨x0⟩ : St120).Oper_.F_), .int .i64 ((⟨x0⟩ : St120).Oper_.W_), .int .i64 ((⟨x0⟩ : St120).Oper_.C_)]] []), (.int .u8 116, .fn (.func 102) [.agg [lsv (encI .u8) 1 ((⟨x0⟩ : St120).Oper_.I_), lsv (encI .u8) 1 ((⟨x0⟩ : St120).Oper_.F_), .int .i64 ((⟨x0⟩ : St120).Oper_.W_), .int .i64 ((⟨x0⟩ : St120).Oper_.C_)]] []), (.int .u8 99, .fn (.func 103) [.agg [lsv (encI .u8) 1 ((⟨x0⟩ : St120).Oper_.I_), lsv (encI .u8) 1 ((⟨x0⟩ : St120).Oper_.F_), .int .i64 ((⟨x0⟩ : St120).Oper_.W_), .int .i64 ((⟨x0⟩ : St120).Oper_.C_)]] []), (.int .u8 101, .fn (.func 103) [.agg [lsv (encI .u8) 1 ((⟨x0⟩ : St120).Oper_.I_), lsv (encI .u8) 1 ((⟨x0⟩ : St120).Oper_.F_), .int .i64 ((⟨x0⟩ : St120).Oper_.W_), .int .i64 ((⟨x0⟩ : St120).Oper_.C_)]] [])] 2) (tr2 := []) (by kernel_rfl) (by simp [hitC, missC, sameB, sameE, hn13, hn20, hn27]) ?_
     refine kC 5 [4,5,6,7] ?_
     refine kEN ?_
     refine kS ?_
     refine kSR ?_
     refine kC 2 [4,5,6,20] ?_
     refine kEN ?_
     refine kF ?_
     refine kK ?_
     refine PJ.next ?_
     refine kSR ?_
     refine kC 1 [4,5,21] ?_
     obtain ⟨y28, hy29, h30⟩ := bindS h25
     refine kA 22 (oper_asked__long_ok hy29) ?_
     refine RJ.seg 4 [4, 5] (L2 := [(4, lsv (encI .u8) 1 y28.1), (5, .bool y28.2)]) (H2 := [.box (encSt33 x0), .map [(.int .u8 110, .fn (.func 97) [.agg [lsv (encI .u8) 1 ((⟨x0⟩ : St120).Oper_.I_), lsv (encI .u8) 1 ((⟨x0⟩ : St120).Oper_.F_), .int .i64 ((⟨x0⟩ : St120).Oper_.W_), .int .i64 ((⟨x0⟩ : St120).Oper_.C_)]] []), (.int .u8 105, .fn (.func 98) [.agg [lsv (encI .u8) 1 ((⟨x0⟩ : St120).Oper_.I_), lsv (encI .u8) 1 ((⟨x0⟩ : St120).Oper_.F_), .int .i64 ((⟨x0⟩ : St120).Oper_.W_), .int .i64 ((⟨x0⟩ : St120).Oper_.C_)]] []), (.int .u8 118, .fn (.func 99) [.agg [lsv (encI .u8) 1 ((⟨x0⟩ : St120).Oper_.I_), lsv (encI .u8) 1 ((⟨x0⟩ : St120).Oper_.F_), .int .i64 ((⟨x0⟩ : St120).Oper_.W_), .int .i64 ((⟨x0⟩ : St120).Oper_.C_)]] []), (.int .u8 119, .fn (.func 100) [.agg [lsv (encI .u8) 1 ((⟨x0⟩ : St120).Oper_.I_), lsv (encI .u8) 1 ((⟨x0⟩ : St120).Oper_.F_), .int .i64 ((⟨x0⟩ : St120).Oper_.W_), .int .i64 ((⟨x0⟩ : St120).Oper_.C_)]] []), (.int .u8 102, .fn (.func 101) [.agg [lsv (encI .u8) 1 ((⟨x0⟩ : St120).Oper_.I_), lsv (encI .u8) 1 ((⟨x0⟩ : St120).Oper_.F_), .int .i64 ((⟨x0⟩ : St120).Oper_.W_), .int .i64 ((⟨x0⟩ : St120).Oper_.C_)]] []), (.int .u8 116, .fn (.func 102) [.agg [lsv (encI .u8) 1 ((⟨x0⟩ : St120).Oper_.I_), lsv (encI .u8) 1 ((⟨x0⟩ : St120).Oper_.F_), .int .i64 ((⟨x0⟩ : St120).Oper_.W_), .int .i64 ((⟨x0⟩ : St120).Oper_.C_)]] []), (.int .u8 99, .fn (.func 103) [.agg [lsv (encI .u8) 1 ((⟨x0⟩ : St120).Oper_.I_), lsv (encI .u8) 1 ((⟨x0⟩ : St120).Oper_.F_), .int .i64 ((⟨x0⟩ : St120).Oper_.W_), .int .i64 ((⟨x0⟩ : St120).Oper_.C_)]] []), (.int .u8 101, .fn (.func 103) [.agg [lsv (encI .u8) 1 ((⟨x0⟩ : St120).Oper_.I_), lsv (encI .u8) 1 ((⟨x0⟩ : St120).Oper_.F_), .int .i64 ((⟨x0⟩ : St120).Oper_.W_), .int .i64 ((⟨x0⟩ : St120).Oper_.C_)]] [])]]) (by kernel_rfl) ?_
     refine kEN ?_
     refine kX ?_
     obtain rfl := oi h30
     exact kZ hFn hFH hFD
   ·have h18 := condT hb17 h12
    have hn20 := of_decide_eq_true hb17
    refine RJ.look (some 1) (d := some 16) (ef := ⟨.tup [.fn (.func 98) [.agg [lsv (encI .u8) 1 ((⟨x0⟩ : St120).Oper_.I_), lsv (encI .u8) 1 ((⟨x0⟩ : St120).Oper_.F_), .int .i64 ((⟨x0⟩ : St120).Oper_.W_), .int .i64 ((⟨x0⟩ : St120).Oper_.C_)]] [], .bool true], [1], []⟩) (c := hitC (.int .u8 x1) [(.int .u8 110, .fn (.func 97) [.agg [lsv (encI .u8) 1 ((⟨x0⟩ : St120).Oper_.I_), lsv (encI .u8) 1 ((⟨x0⟩ : St120).Oper_.F_), .int .i64 ((⟨x0⟩ : St120).Oper_.W_), .int .i64 ((⟨x0⟩ : St120).Oper_.C_)]] []), (.int .u8 105, .fn (.func 98) [.agg [lsv (encI .u8) 1 ((⟨x0⟩ : St120).Oper_.I_), lsv (encI .u8) 1 ((⟨x0⟩ : St120).Oper_.F_), .int .i64 ((⟨x0⟩ : St120).Oper_.W_), .int .i64 ((⟨x0⟩ : St120).Oper_.C_)]] []), (.int .u8 118, .fn (.func 99) [.agg [lsv (encI .u8) 1 ((⟨x0⟩ : St120).Oper_.I_), lsv (encI .u8) 1 ((⟨x0⟩ : St120).Oper_.F_), .int .i64 ((⟨x0⟩ : St120).Oper_.W_), .int .i64 ((⟨x0⟩ : St120).Oper_.C_)]] []), (.int .u8 119, .fn (.func 100) [.agg [lsv (encI .u8) 1 ((⟨x0⟩ : St120).Oper_.I_), lsv (encI .u8) 1 ((⟨x0⟩ : St120).Oper_.F_), .int .i64 ((⟨x0⟩ : St120).Oper_.W_), .int .i64 ((⟨x0⟩ : St120).Oper_.C_)]] []), (.int .u8 102, .fn (.func 101) [.agg [lsv (encI .u8) 1 ((⟨x0⟩ : St120).Oper_.I_), lsv (encI .u8) 1 ((⟨x0⟩ : St120).Oper_.F_), .int .i64 ((⟨x0⟩ : St120).Oper_.W_), .int .i64 ((⟨x0⟩ : St120).Oper_.C_)]] []), (.int .u8 116, .fn (.func 102) [.agg [lsv (encI .u8) 1 ((⟨x0⟩ : St120).Oper_.I_), lsv (encI .u8) 1 ((⟨x0⟩ : St120).Oper_.F_), .int .i64 ((⟨x0⟩ : St120).Oper_.W_), .int .i64 ((⟨x0⟩ : St120).Oper_.C_)]] []), (.int .u8 99, .fn (.func 103) [.agg [lsv (encI .u8) 1 ((⟨x0⟩ : St120).Oper_.I_), lsv (encI .u8) 1 ((⟨x0⟩ : St120).Oper_.F_), .int .i64 ((⟨x0⟩ : St120).Oper_.W_), .int .i64 ((⟨x0⟩ : St120).Oper_.C_)]] []), (.int .u8 101, .fn (.func 103) [.agg [lsv (encI .u8) 1 ((⟨x0⟩ : St120).Oper_.I_), lsv (encI .u8) 1 ((⟨x0⟩ : St120).Oper_.F_), .int .i64 ((⟨x0⟩ : St120).Oper_.W_), .int .i64 ((⟨x0⟩ : St120).Oper_.C_)]] [])] 1) (tr2 := []) (by kernel_rfl) (by simp [hitC, missC, sameB, sameE, hn13, hn20]) ?_
    refine kC 5 [4,5,6,7] ?_
    refine kEN ?_
    refine kS ?_
    refine kSR ?_
    refine kC 2 [4,5,6,20] ?_
    refine kEN ?_
    refine kF ?_
    refine kK ?_
    refine PJ.next ?_
    refine kSR ?_
    refine kC 1 [4,5,21] ?_
    obtain ⟨y21, hy22, h23⟩ := bindS h18
    refine kA 22 (oper_asked__whole_ok hy22) ?_
    refine RJ.seg 4 [4, 5] (L2 := [(4, lsv (encI .u8) 1 y21.1), (5, .bool y21.2)]) (H2 := [.box (encSt33 x0), .map [(.int .u8 110, .fn (.func 97) [.agg [lsv (encI .u8) 1 ((⟨x0⟩ : St120).Oper_.I_), lsv (encI .u8) 1 ((⟨x0⟩ : St120).Oper_.F_), .int .i64 ((⟨x0⟩ : St120).Oper_.W_), .int .i64 ((⟨x0⟩ : St120).Oper_.C_)]] []), (.int .u8 105, .fn (.func 98) [.agg [lsv (encI .u8) 1 ((⟨x0⟩ : St120).Oper_.I_), lsv (encI .u8) 1 ((⟨x0⟩ : St120).Oper_.F_), .int .i64 ((⟨x0⟩ : St120).Oper_.W_), .int .i64 ((⟨x0⟩ : St120).Oper_.C_)]] []), (.int .u8 118, .fn (.func 99) [.agg [lsv (encI .u8) 1 ((⟨x0⟩ : St120).Oper_.I_), lsv (encI .u8) 1 ((⟨x0⟩ : St120).Oper_.F_), .int .i64 ((⟨x0⟩ : St120).Oper_.W_), .int .i64 ((⟨x0⟩ : St120).Oper_.C_)]] []), (.int .u8 119, .fn (.func 100) [.agg [lsv (encI .u8) 1 ((⟨x0⟩ : St120).Oper_.I_), lsv (encI .u8) 1 ((⟨x0⟩ : St120).Oper_.F_), .int .i64 ((⟨x0⟩ : St120).Oper_.W_), .int .i64 ((⟨x0⟩ : St120).Oper_.C_)]] []), (.int .u8 102, .fn (.func 101) [.agg [lsv (encI .u8) 1 ((⟨x0⟩ : St120).Oper_.I_), lsv (encI .u8) 1 ((⟨x0⟩ : St120).Oper_.F_), .int .i64 ((⟨x0⟩ : St120).Oper_.W_), .int .i64 ((⟨x0⟩ : St120).Oper_.C_)]] []), (.int .u8 116, .fn (.func 102) [.agg [lsv (encI .u8) 1 ((⟨x0⟩ : St120).Oper_.I_), lsv (encI .u8) 1 ((⟨x0⟩ : St120).Oper_.F_), .int .i64 ((⟨x0⟩ : St120).Oper_.W_), .int .i64 ((⟨x0⟩ : St120).Oper_.C_)]] []), (.int .u8 99, .fn (.func 103) [.agg [lsv (encI .u8) 1 ((⟨x0⟩ : St120).Oper_.I_), lsv (encI .u8) 1 ((⟨x0⟩ : St120).Oper_.F_), .int .i64 ((⟨x0⟩ : St120).Oper_.W_), .int .i64 ((⟨x0⟩ : St120).Oper_.C_)]] []), (.int .u8 101, .fn (.func 103) [.agg [lsv (encI .u8) 1 ((⟨x0⟩ : St120).Oper_.I_), lsv (encI .u8) 1 ((⟨x0⟩ : St120).Oper_.F_), .int .i64 ((⟨x0⟩ : St120).Oper_.W_), .int .i64 ((⟨x0⟩ : St120).Oper_.C_)]] [])]]) (by kernel_rfl) ?_
    refine kEN ?_
    refine kX ?_
    obtain rfl := oi h23
    exact kZ hFn hFH hFD
  ·have h11 := condT hb10 h9
   have hn13 := of_decide_eq_true hb10
   refine RJ.look (some 0) (d := some 16) (ef := ⟨.tup [.fn (.func 97) [.agg [lsv (encI .u8) 1 ((⟨x0⟩ : St120).Oper_.I_), lsv (encI .u8) 1 ((⟨x0⟩ : St120).Oper_.F_), .int .i64 ((⟨x0⟩ : St120).Oper_.W_), .int .i64 ((⟨x0⟩ : St120).Oper_.C_)]] [], .bool true], [1], []⟩) (c := hitC (.int .u8 x1) [(.int .u8 110, .fn (.func 97) [.agg [lsv (encI .u8) 1 ((⟨x0⟩ : St120).Oper_.I_), lsv (encI .u8) 1 ((⟨x0⟩ : St120).Oper_.F_), .int .i64 ((⟨x0⟩ : St120).Oper_.W_), .int .i64 ((⟨x0⟩ : St120).Oper_.C_)]] []), (.int .u8 105, .fn (.func 98) [.agg [lsv (encI .u8) 1 ((⟨x0⟩ : St120).Oper_.I_), lsv (encI .u8) 1 ((⟨x0⟩ : St120).Oper_.F_), .int .i64 ((⟨x0⟩ : St120).Oper_.W_), .int .i64 ((⟨x0⟩ : St120).Oper_.C_)]] []), (.int .u8 118, .fn (.func 99) [.agg [lsv (encI .u8) 1 ((⟨x0⟩ : St120).Oper_.I_), lsv (encI .u8) 1 ((⟨x0⟩ : St120).Oper_.F_), .int .i64 ((⟨x0⟩ : St120).Oper_.W_), .int .i64 ((⟨x0⟩ : St120).Oper_.C_)]] []), (.int .u8 119, .fn (.func 100) [.agg [lsv (encI .u8) 1 ((⟨x0⟩ : St120).Oper_.I_), lsv (encI .u8) 1 ((⟨x0⟩ : St120).Oper_.F_), .int .i64 ((⟨x0⟩ : St120).Oper_.W_), .int .i64 ((⟨x0⟩ : St120).Oper_.C_)]] []), (.int .u8 102, .fn (.func 101) [.agg [lsv (encI .u8) 1 ((⟨x0⟩ : St120).Oper_.I_), lsv (encI .u8) 1 ((⟨x0⟩ : St120).Oper_.F_), .int .i64 ((⟨x0⟩ : St120).Oper_.W_), .int .i64 ((⟨x0⟩ : St120).Oper_.C_)]] []), (.int .u8 116, .fn (.func 102) [.agg [lsv (encI .u8) 1 ((⟨x0⟩ : St120).Oper_.I_), lsv (encI .u8) 1 ((⟨x0⟩ : St120).Oper_.F_), .int .i64 ((⟨x0⟩ : St120).Oper_.W_), .int .i64 ((⟨x0⟩ : St120).Oper_.C_)]] []), (.int .u8 99, .fn (.func 103) [.agg [lsv (encI .u8) 1 ((⟨x0⟩ : St120).Oper_.I_), lsv (encI .u8) 1 ((⟨x0⟩ : St120).Oper_.F_), .int .i64 ((⟨x0⟩ : St120).Oper_.W_), .int .i64 ((⟨x0⟩ : St120).Oper_.C_)]] []), (.int .u8 101, .fn (.func 103) [.agg [lsv (encI .u8) 1 ((⟨x0⟩ : St120).Oper_.I_), lsv (encI .u8) 1 ((⟨x0⟩ : St120).Oper_.F_), .int .i64 ((⟨x0⟩ : St120).Oper_.W_), .int .i64 ((⟨x0⟩ : St120).Oper_.C_)]] [])] 0) (tr2 := []) (by kernel_rfl) (by simp [hitC, missC, sameB, sameE, hn13]) ?_
   refine kC 5 [4,5,6,7] ?_
   refine kEN ?_
   refine kS ?_
   refine kSR ?_
   refine kC 2 [4,5,6,20] ?_
   refine kEN ?_
   refine kF ?_
   refine kK ?_
   refine PJ.next ?_
   refine kSR ?_
   refine kC 1 [4,5,21] ?_
   obtain ⟨y14, hy15, h16⟩ := bindS h11
   refine kA 22 (oper_asked__number_ok hy15) ?_
   refine RJ.seg 4 [4, 5] (L2 := [(4, lsv (encI .u8) 1 y14.1), (5, .bool y14.2)]) (H2 := [.box (encSt33 x0), .map [(.int .u8 110, .fn (.func 97) [.agg [lsv (encI .u8) 1 ((⟨x0⟩ : St120).Oper_.I_), lsv (encI .u8) 1 ((⟨x0⟩ : St120).Oper_.F_), .int .i64 ((⟨x0⟩ : St120).Oper_.W_), .int .i64 ((⟨x0⟩ : St120).Oper_.C_)]] []), (.int .u8 105, .fn (.func 98) [.agg [lsv (encI .u8) 1 ((⟨x0⟩ : St120).Oper_.I_), lsv (encI .u8) 1 ((⟨x0⟩ : St120).Oper_.F_), .int .i64 ((⟨x0⟩ : St120).Oper_.W_), .int .i64 ((⟨x0⟩ : St120).Oper_.C_)]] []), (.int .u8 118, .fn (.func 99) [.agg [lsv (encI .u8) 1 ((⟨x0⟩ : St120).Oper_.I_), lsv (encI .u8) 1 ((⟨x0⟩ : St120).Oper_.F_), .int .i64 ((⟨x0⟩ : St120).Oper_.W_), .int .i64 ((⟨x0⟩ : St120).Oper_.C_)]] []), (.int .u8 119, .fn (.func 100) [.agg [lsv (encI .u8) 1 ((⟨x0⟩ : St120).Oper_.I_), lsv (encI .u8) 1 ((⟨x0⟩ : St120).Oper_.F_), .int .i64 ((⟨x0⟩ : St120).Oper_.W_), .int .i64 ((⟨x0⟩ : St120).Oper_.C_)]] []), (.int .u8 102, .fn (.func 101) [.agg [lsv (encI .u8) 1 ((⟨x0⟩ : St120).Oper_.I_), lsv (encI .u8) 1 ((⟨x0⟩ : St120).Oper_.F_), .int .i64 ((⟨x0⟩ : St120).Oper_.W_), .int .i64 ((⟨x0⟩ : St120).Oper_.C_)]] []), (.int .u8 116, .fn (.func 102) [.agg [lsv (encI .u8) 1 ((⟨x0⟩ : St120).Oper_.I_), lsv (encI .u8) 1 ((⟨x0⟩ : St120).Oper_.F_), .int .i64 ((⟨x0⟩ : St120).Oper_.W_), .int .i64 ((⟨x0⟩ : St120).Oper_.C_)]] []), (.int .u8 99, .fn (.func 103) [.agg [lsv (encI .u8) 1 ((⟨x0⟩ : St120).Oper_.I_), lsv (encI .u8) 1 ((⟨x0⟩ : St120).Oper_.F_), .int .i64 ((⟨x0⟩ : St120).Oper_.W_), .int .i64 ((⟨x0⟩ : St120).Oper_.C_)]] []), (.int .u8 101, .fn (.func 103) [.agg [lsv (encI .u8) 1 ((⟨x0⟩ : St120).Oper_.I_), lsv (encI .u8) 1 ((⟨x0⟩ : St120).Oper_.F_), .int .i64 ((⟨x0⟩ : St120).Oper_.W_), .int .i64 ((⟨x0⟩ : St120).Oper_.C_)]] [])]]) (by kernel_rfl) ?_
   refine kEN ?_
   refine kX ?_
   obtain rfl := oi h16
   exact kZ hFn hFH hFD
def oper_Mod (x0 : List Int) (x1 : Int) : Option (Int) :=
 (Option.bind (Option.bind (bif (decide (x1 < 1)) then (some true) else (some (decide (x1 > 1000000000)))) fun (s24 : Bool) => (bif s24 then (some (.inr 0)) else (some (.inl ())))) (joinX fun (s16 : Unit) => (Option.bind (loopN (fun (s65 : Int × Int) => (bif (decide (s65.2 < (x0.length : Int))) then (bif inR s65.2 x0.length then (bif nz x1 then (some (.inl ((Int.tmod ((IntKind.wrap .i64 ((IntKind.wrap .i64 (s65.1 * 10)) + (IntKind.wrap .i64 (nth x0 s65.2))))) x1), (IntKind.wrap .i64 (s65.2 + 1))))) else none) else none) else (some (.inr s65.1)))) big (0, 0)) fun (s60 : Int) => (some s60))))
theorem oper_Mod_ok {x0 : List Int} {x1 : Int} {r : Int} (h : oper_Mod x0 x1 = some r) : SC Tryz.prog 88 [lsv (encI .u8) 1 x0, .int .i64 x1] [] (.int .i64 r) [] := by
 refine kFn (fn := Tryz.f88) (fun F hFn hFH hFD => ?_)
 unfold oper_Mod at h
 refine kSR ?_
 refine kC 1 [0,1,4] ?_
 refine kEN ?_
 obtain ⟨y17, hy18, h19⟩ := bindS h
 refine K.cutX (by kernel_rfl) (fun (s16 : Unit) => ([(0, lsv (encI .u8) 1 x0), (1, .int .i64 x1), (4, .int .i64 0)], [])) y17 ?_ (fun s16 hs => ?_)
 ·obtain ⟨s24, hy26, h28⟩ := bindS hy18
  refine K.cutN (by kernel_rfl) (fun (s24 : Bool) => ([(0, lsv (encI .u8) 1 x0), (1, .int .i64 x1), (4, .int .i64 0), (13, .bool s24)], [])) s24 ?_ ?_
  ·refine kR ?_
   refine kC 3 [0,1,4,10] ?_
   refine kB 10 hy26 (fun h30 => ?_) (fun h31 => ?_)
   ·refine kC 3 [0,1,4,13] ?_
    refine kE ?_
    obtain rfl := oi h30
    exact kN [0, 1, 4, 13]
   ·refine kC 3 [0,1,4,13] ?_
    refine kE ?_
    obtain rfl := oi h31
    exact kN [0, 1, 4, 13]
  ·refine kBJ 13 h28 (fun h33 => ?_) (fun h34 => ?_)
   ·refine kT ?_
    refine kSR ?_
    refine kC 1 [0,1,4] ?_
    refine kEN ?_
    refine kX ?_
    obtain rfl := oi h33
    have h35 := joinX_inr h19
    refine PJ.cutXr (fun e => nomatch e) ?_
    obtain rfl := oi h35
    exact kZ hFn hFH hFD
   ·refine kF ?_
    refine kK ?_
    obtain rfl := oi h34
    exact kXl [0, 1, 4]
 ·subst hs
  have h20 := joinX_inl h19
  refine kSR ?_
  refine kC 1 [0,1,4,5] ?_
  refine kEN ?_
  obtain ⟨s60, hy62, h64⟩ := bindS h20
  refine K.cutN (by kernel_rfl) (fun (s60 : Int) => ([(4, .int .i64 0), (5, .int .i64 s60)], [])) s60 ?_ ?_
  ·refine kSR ?_
   refine kC 3 [1,4,5,14,15,16] ?_
   refine kEN ?_
   refine kb 0 ?_
   refine kl (fun (s65 : Int × Int) => ([(1, .int .i64 x1), (4, .int .i64 0), (5, .int .i64 s65.1), (14, lsv (encI .u8) 1 x0), (15, .int .i64 (x0.length : Int)), (16, .int .i64 s65.2)], [])) hy62 [1, 4, 5, 14, 15, 16] (fun s65 x81 hs80 => ?_)
   refine kSR ?_
   refine kC 1 [1,4,5,14,15,16,17] ?_
   refine kEN ?_
   refine kS ?_
   refine kBJ 17 hs80 (fun h83 => ?_) (fun h84 => ?_)
   ·refine kT ?_
    refine kK ?_
    refine PJ.next ?_
    refine kS ?_
    refine kb 1 ?_
    refine kSR ?_
    obtain ⟨hm, h85⟩ := asrt h83
    refine kI 18 (encI_len .u8) hm ?_
    refine kC 2 [1,4,5,7,14,15,16] ?_
    refine kEN ?_
    refine kR ?_
    refine kC 6 [1,4,5,14,15,16,24,25] ?_
    obtain ⟨hm, h86⟩ := asrt h85
    refine kQ 26 (.int .i64 (Int.tmod ((IntKind.wrap .i64 ((IntKind.wrap .i64 (s65.1 * 10)) + (IntKind.wrap .i64 (nth x0 s65.2))))) x1)) [] (tr2 := []) hm ?_
    refine kC 1 [1,4,5,14,15,16] ?_
    refine kE ?_
    refine PJ.blockNormal ?_
    refine PJ.next ?_
    refine kR ?_
    refine kC 2 [1,4,5,14,15,16] ?_
    refine kE ?_
    obtain rfl := oi h86
    exact kLN [1, 4, 5, 14, 15, 16]
   ·refine kF ?_
    refine K.exit 0 (by kernel_rfl) ?_
    refine PJ.passExit ?_
    obtain rfl := oi h84
    refine PJ.loopOut (fun e => nomatch e) (fun he88 => ?_)
    have h87 := congrArg some he88
    refine PJ.blockOut ?_
    obtain rfl := oi h87
    exact kN [4, 5]
  ·refine kSR ?_
   refine kC 2 [4] ?_
   refine kEN ?_
   refine kX ?_
   obtain rfl := oi h64
   exact kZ hFn hFH hFD
def rule_holding_s0 (x0 : List Int) (x1 : Int) : Option (Unit ⊕ Int) :=
 (bif (decide (x1 = 0)) then (some (.inl ())) else (Option.bind (oper_Mod x0 x1) fun y4 => (some (.inr y4))))
theorem rule_holding_s0_ok0 {x0 : List Int} {x1 : Int} {r : Unit} (h : rule_holding_s0 x0 x1 = some (.inl r)) : SC Tryz.prog 76 [lsv (encI .u8) 1 x0, .int .i64 x1] [] (.fn (.func 86) [] [.ptr 0 0]) [.box [lsv (encI .u8) 1 x0]] := by
 refine kFn (fn := Tryz.f76) (fun F hFn hFH hFD => ?_)
 unfold rule_holding_s0 at h
 refine kSR ?_
 refine kC 2 [1,2] ?_
 refine kEN ?_
 refine kS ?_
 refine kSR ?_
 refine kC 2 [1,2,7] ?_
 refine kEN ?_
 refine kBJ 7 h (fun h2 => ?_) (fun h3 => ?_)
 ·refine kT ?_
  refine kSR ?_
  refine kC 2 [1,2,4] ?_
  refine kEN ?_
  refine kX ?_
  refine PJ.passRet ?_
  obtain rfl := Sum.inl.inj (Option.some.inj h2)
  exact kV [0] hFn hFH hFD (v1 := .fn (.func 86) [] [.ptr 0 0])
 ·refine kF ?_
  refine kK ?_
  refine PJ.next ?_
  refine kSR ?_
  refine kC 2 [9,10] ?_
  obtain ⟨y4, hy5, h6⟩ := bindS h3
  refine kA 11 (oper_Mod_ok hy5) ?_
  refine kC 2 [5] ?_
  refine kEN ?_
  refine kSR ?_
  refine kC 2 [4] ?_
  refine kEN ?_
  refine kX ?_
  cases h6
theorem rule_holding_s0_ok1 {x0 : List Int} {x1 : Int} {r : Int} (h : rule_holding_s0 x0 x1 = some (.inr r)) : SC Tryz.prog 76 [lsv (encI .u8) 1 x0, .int .i64 x1] [] (.fn (.func 89) [] [.ptr 0 0]) [.box [.int .i64 r]] := by
 refine kFn (fn := Tryz.f76) (fun F hFn hFH hFD => ?_)
 unfold rule_holding_s0 at h
 refine kSR ?_
 refine kC 2 [1,2] ?_
 refine kEN ?_
 refine kS ?_
 refine kSR ?_
 refine kC 2 [1,2,7] ?_
 refine kEN ?_
 refine kBJ 7 h (fun h2 => ?_) (fun h3 => ?_)
 ·refine kT ?_
  refine kSR ?_
  refine kC 2 [1,2,4] ?_
  refine kEN ?_
  refine kX ?_
  refine PJ.passRet ?_
  cases h2
 ·refine kF ?_
  refine kK ?_
  refine PJ.next ?_
  refine kSR ?_
  refine kC 2 [9,10] ?_
  obtain ⟨y4, hy5, h6⟩ := bindS h3
  refine kA 11 (oper_Mod_ok hy5) ?_
  refine kC 2 [5] ?_
  refine kEN ?_
  refine kSR ?_
  refine kC 2 [4] ?_
  refine kEN ?_
  refine kX ?_
  obtain rfl := Sum.inr.inj (Option.some.inj h6)
  exact kV [1] hFn hFH hFD (v1 := .fn (.func 89) [] [.ptr 1 0])
def oper_In (x0 : List Int) (x1 : Int) (x2 : Int) : Option (Bool) :=
 (Option.bind (oper_strip x0) fun y1 => (Option.bind (Option.bind (bif (decide ((y1.length : Int) > 19)) then (some true) else (some (decide (x2 < 0)))) fun (s27 : Bool) => (bif s27 then (some (.inr false)) else (some (.inl ())))) (joinX fun (s19 : Unit) => (Option.bind (loopN (fun (s65 : Int × Int) => (bif (decide (s65.2 < (y1.length : Int))) then (bif inR s65.2 y1.length then (some (.inl ((IntKind.wrap .u64 ((IntKind.wrap .u64 (s65.1 * 10)) + (IntKind.wrap .u64 (nth y1 s65.2)))), (IntKind.wrap .i64 (s65.2 + 1))))) else none) else (some (.inr s65.1)))) big (0, 0)) fun (s60 : Int) => (Option.bind (bif (decide (s60 ≤ (IntKind.wrap .u64 x2))) then (some ((decide (s60 ≥ (IntKind.wrap .u64 (maxI x1 0)))))) else (some false)) fun (s89 : Bool) => (some s89))))))
theorem oper_In_ok {x0 : List Int} {x1 : Int} {x2 : Int} {r : Bool} (h : oper_In x0 x1 x2 = some r) : SC Tryz.prog 87 [lsv (encI .u8) 1 x0, .int .i64 x1, .int .i64 x2] [] (.bool r) [] := by
 refine kFn (fn := Tryz.f87) (fun F hFn hFH hFD => ?_)
 unfold oper_In at h
 refine kSR ?_
 refine kC 1 [0,1,2,6] ?_
 refine kEN ?_
 refine kSR ?_
 refine kC 1 [0,1,2,6,10] ?_
 obtain ⟨y1, hy2, h3⟩ := bindS h
 refine kA 11 (oper_strip_ok hy2) ?_
 refine kC 1 [0,1,2,6] ?_
 refine kEN ?_
 obtain ⟨y20, hy21, h22⟩ := bindS h3
 refine K.cutX (by kernel_rfl) (fun (s19 : Unit) => ([(0, lsv (encI .u8) 1 y1), (1, .int .i64 x1), (2, .int .i64 x2), (6, .bool false)], [])) y20 ?_ (fun s19 hs => ?_)
 ·obtain ⟨s27, hy29, h31⟩ := bindS hy21
  refine K.cutN (by kernel_rfl) (fun (s27 : Bool) => ([(0, lsv (encI .u8) 1 y1), (1, .int .i64 x1), (2, .int .i64 x2), (6, .bool false), (18, .bool s27)], [])) s27 ?_ ?_
  ·refine kR ?_
   refine kC 4 [0,1,2,6,15] ?_
   refine kB 15 hy29 (fun h33 => ?_) (fun h34 => ?_)
   ·refine kC 3 [0,1,2,6,18] ?_
    refine kE ?_
    obtain rfl := oi h33
    exact kN [0, 1, 2, 6, 18]
   ·refine kC 3 [0,1,2,6,18] ?_
    refine kE ?_
    obtain rfl := oi h34
    exact kN [0, 1, 2, 6, 18]
  ·refine kBJ 18 h31 (fun h36 => ?_) (fun h37 => ?_)
   ·refine kT ?_
    refine kSR ?_
    refine kC 1 [0,1,2,6] ?_
    refine kEN ?_
    refine kX ?_
    obtain rfl := oi h36
    have h38 := joinX_inr h22
    refine PJ.cutXr (fun e => nomatch e) ?_
    obtain rfl := oi h38
    exact kZ hFn hFH hFD
   ·refine kF ?_
    refine kK ?_
    obtain rfl := oi h37
    exact kXl [0, 1, 2, 6]
 ·subst hs
  have h23 := joinX_inl h22
  refine kSR ?_
  refine kC 1 [0,1,2,6,7] ?_
  refine kEN ?_
  obtain ⟨s60, hy62, h64⟩ := bindS h23
  refine K.cutN (by kernel_rfl) (fun (s60 : Int) => ([(1, .int .i64 x1), (2, .int .i64 x2), (6, .bool false), (7, .int .u64 s60)], [])) s60 ?_ ?_
  ·refine kSR ?_
   refine kC 3 [1,2,6,7,19,20,21] ?_
   refine kEN ?_
   refine kb 0 ?_
   refine kl (fun (s65 : Int × Int) => ([(1, .int .i64 x1), (2, .int .i64 x2), (6, .bool false), (7, .int .u64 s65.1), (19, lsv (encI .u8) 1 y1), (20, .int .i64 (y1.length : Int)), (21, .int .i64 s65.2)], [])) hy62 [1, 2, 6, 7, 19, 20, 21] (fun s65 x79 hs78 => ?_)
   refine kSR ?_
   refine kC 1 [1,2,6,7,19,20,21,22] ?_
   refine kEN ?_
   refine kS ?_
   refine kBJ 22 hs78 (fun h81 => ?_) (fun h82 => ?_)
   ·refine kT ?_
    refine kK ?_
    refine PJ.next ?_
    refine kS ?_
    refine kb 1 ?_
    refine kSR ?_
    obtain ⟨hm, h83⟩ := asrt h81
    refine kI 23 (encI_len .u8) hm ?_
    refine kC 2 [1,2,6,7,9,19,20,21] ?_
    refine kEN ?_
    refine kR ?_
    refine kC 6 [1,2,6,7,19,20,21] ?_
    refine kE ?_
    refine PJ.blockNormal ?_
    refine PJ.next ?_
    refine kR ?_
    refine kC 2 [1,2,6,7,19,20,21] ?_
    refine kE ?_
    obtain rfl := oi h83
    exact kLN [1, 2, 6, 7, 19, 20, 21]
   ·refine kF ?_
    refine K.exit 0 (by kernel_rfl) ?_
    refine PJ.passExit ?_
    obtain rfl := oi h82
    refine PJ.loopOut (fun e => nomatch e) (fun he85 => ?_)
    have h84 := congrArg some he85
    refine PJ.blockOut ?_
    obtain rfl := oi h84
    exact kN [1, 2, 6, 7]
  ·obtain ⟨s89, hy91, h93⟩ := bindS h64
   refine K.cutN (by kernel_rfl) (fun (s89 : Bool) => ([(6, .bool s89)], [])) s89 ?_ ?_
   ·refine kR ?_
    refine kC 5 [1,6,7,35] ?_
    refine kB 35 hy91 (fun h95 => ?_) (fun h96 => ?_)
    ·refine kC 7 [6] ?_
     refine kE ?_
     obtain rfl := oi h95
     exact kN [6]
    ·refine kC 7 [6] ?_
     refine kE ?_
     obtain rfl := oi h96
     exact kN [6]
   ·refine kX ?_
    obtain rfl := oi h93
    exact kZ hFn hFH hFD
def rule_holding_1_s0 (x0 : St80) (x1 : List Int) : Option (Bool) :=
 (Option.bind (oper_In x1 x0.a0_ x0.a1_) fun y1 => (some y1))
theorem rule_holding_1_s0_ok {x0 : St80} {x1 : List Int} {r : Bool} (h : rule_holding_1_s0 x0 x1 = some r) : SC Tryz.prog 86 [.agg (encSt80 x0), .ptr 0 0] [.box [lsv (encI .u8) 1 x1]] (.bool r) [.box [lsv (encI .u8) 1 x1]] := by
 refine kFn (fn := Tryz.f86) (fun F hFn hFH hFD => ?_)
 unfold rule_holding_1_s0 at h
 refine kSR ?_
 refine kC 2 [1,2,3] ?_
 refine kEN ?_
 refine kSR ?_
 refine kC 5 [3,4,6,8] ?_
 obtain ⟨y1, hy2, h3⟩ := bindS h
 refine kA 9 (oper_In_ok hy2) ?_
 refine kC 1 [3] ?_
 refine kEN ?_
 refine kX ?_
 obtain rfl := oi h3
 exact kV [0] hFn hFH hFD (v1 := .bool y1)
def slices_IndexFunc_s0 (x0 : List St80) (x1 : List Int) : Option (Int) :=
 (Option.bind (loopN (fun (s54 : Int) => (bif (decide (s54 < (x0.length : Int))) then (bif inR s54 x0.length then (Option.bind (rule_holding_1_s0 (nth x0 s54) x1) fun y91 => (bif y91 then (some (.inr (.inr s54))) else (some (.inl (IntKind.wrap .i64 (s54 + 1)))))) else none) else (some (.inr (.inl ()))))) big 0) (joinX fun (s49 : Unit) => (some (-1))))
theorem slices_IndexFunc_s0_ok {x0 : List St80} {x1 : List Int} {r : Int} (h : slices_IndexFunc_s0 x0 x1 = some r) : SC Tryz.prog 85 [lsv encSt80 2 x0, .fn (.func 86) [] [.ptr 0 0]] [.box [lsv (encI .u8) 1 x1]] (.int .i64 r) [.box [lsv (encI .u8) 1 x1]] := by
 refine kFn (fn := Tryz.f85) (fun F hFn hFH hFD => ?_)
 unfold slices_IndexFunc_s0 at h
 refine kSR ?_
 refine kC 1 [0,1,4] ?_
 refine kEN ?_
 obtain ⟨y50, hy51, h52⟩ := bindS h
 refine K.cutX (by kernel_rfl) (fun (s49 : Unit) => ([(4, .int .i64 0)], [.box [lsv (encI .u8) 1 x1]])) y50 ?_ (fun s49 hs => ?_)
 ·refine kSR ?_
  refine kC 3 [0,1,4,7,8] ?_
  refine kEN ?_
  refine kb 0 ?_
  refine kl (fun (s54 : Int) => ([(0, lsv encSt80 2 x0), (1, .fn (.func 86) [] [.ptr 0 0]), (4, .int .i64 0), (7, .int .i64 (x0.length : Int)), (8, .int .i64 s54)], [.box [lsv (encI .u8) 1 x1]])) hy51 [0, 1, 4, 7, 8] (fun s54 x86 hs85 => ?_)
  refine kSR ?_
  refine kC 1 [0,1,4,7,8,9] ?_
  refine kEN ?_
  refine kS ?_
  refine kBJ 9 hs85 (fun h88 => ?_) (fun h89 => ?_)
  ·refine kT ?_
   refine kK ?_
   refine PJ.next ?_
   refine kS ?_
   refine kb 1 ?_
   refine kSR ?_
   refine kC 2 [0,1,4,5,7,8] ?_
   refine kEN ?_
   refine kSR ?_
   refine kC 3 [0,1,4,5,7,8,11,12,13] ?_
   obtain ⟨hm, h90⟩ := asrt h88
   refine kI 14 encSt80_len hm ?_
   refine kC 1 [0,1,4,5,7,8,11,15] ?_
   obtain ⟨y91, hy92, h93⟩ := bindS h90
   refine kCG (some 16) (args := [.agg [.int .i64 ((nth x0 s54).a0_), .int .i64 ((nth x0 s54).a1_)], .ptr 0 0]) (v := .bool y91) (H2 := [.box [lsv (encI .u8) 1 x1]]) [0] (rule_holding_1_s0_ok hy92) ?_
   refine kEN ?_
   refine kBJ 16 h93 (fun h95 => ?_) (fun h96 => ?_)
   ·refine kT ?_
    refine kSR ?_
    refine kC 2 [0,1,4,7,8] ?_
    refine kEN ?_
    refine kX ?_
    refine PJ.blockRet ?_
    refine PJ.passRet ?_
    obtain rfl := oi h95
    refine PJ.loopOut (fun e => nomatch e) (fun he99 => ?_)
    have h97 := congrArg some he99
    refine PJ.blockRet ?_
    obtain rfl := oi h97
    have h98 := joinX_inr h52
    refine PJ.cutXr (fun e => nomatch e) ?_
    obtain rfl := oi h98
    exact kV [0] hFn hFH hFD (v1 := .int .i64 s54)
   ·refine kF ?_
    refine kK ?_
    refine PJ.blockNormal ?_
    refine PJ.next ?_
    refine kR ?_
    refine kC 2 [0,1,4,7,8] ?_
    refine kE ?_
    obtain rfl := oi h96
    exact kLN [0, 1, 4, 7, 8]
  ·refine kF ?_
   refine K.exit 0 (by kernel_rfl) ?_
   refine PJ.passExit ?_
   obtain rfl := oi h89
   refine PJ.loopOut (fun e => nomatch e) (fun he101 => ?_)
   have h100 := congrArg some he101
   refine PJ.blockOut ?_
   obtain rfl := oi h100
   exact kXl [4]
 ·subst hs
  have h53 := joinX_inl h52
  refine kSR ?_
  refine kC 1 [4] ?_
  refine kEN ?_
  refine kX ?_
  obtain rfl := oi h53
  exact kV [0] hFn hFH hFD (v1 := .int .i64 (-1))
def slices_ContainsFunc_s0 (x0 : List St80) (x1 : List Int) : Option (Bool) :=
 (Option.bind (slices_IndexFunc_s0 x0 x1) fun y1 => (some (decide (y1 ≥ 0))))
theorem slices_ContainsFunc_s0_ok {x0 : List St80} {x1 : List Int} {r : Bool} (h : slices_ContainsFunc_s0 x0 x1 = some r) : SC Tryz.prog 75 [lsv encSt80 2 x0, .fn (.func 86) [] [.ptr 0 0]] [.box [lsv (encI .u8) 1 x1]] (.bool r) [.box [lsv (encI .u8) 1 x1]] := by
 refine kFn (fn := Tryz.f75) (fun F hFn hFH hFD => ?_)
 unfold slices_ContainsFunc_s0 at h
 refine kSR ?_
 refine kC 1 [0,1,4] ?_
 refine kEN ?_
 refine kSR ?_
 refine kC 2 [4,5,6] ?_
 obtain ⟨y1, hy2, h3⟩ := bindS h
 refine kCG (some 7) (args := [lsv encSt80 2 x0, .fn (.func 86) [] [.ptr 0 0]]) (v := .int .i64 y1) (H2 := [.box [lsv (encI .u8) 1 x1]]) [0] (slices_IndexFunc_s0_ok hy2) ?_
 refine kC 2 [4] ?_
 refine kEN ?_
 refine kX ?_
 obtain rfl := oi h3
 exact kV [0] hFn hFH hFD (v1 := .bool (decide (y1 ≥ 0)))
def rule_holding_2_s0 (x0 : St80) (x1 : Int) : Option (Bool) :=
 (Option.bind (bif (decide (x0.a0_ ≤ x1)) then (some (decide (x1 ≤ x0.a1_))) else (some false)) fun (s4 : Bool) => (some s4))
theorem rule_holding_2_s0_ok {x0 : St80} {x1 : Int} {r : Bool} (h : rule_holding_2_s0 x0 x1 = some r) : SC Tryz.prog 89 [.agg (encSt80 x0), .ptr 0 0] [.box [.int .i64 x1]] (.bool r) [.box [.int .i64 x1]] := by
 refine kFn (fn := Tryz.f89) (fun F hFn hFH hFD => ?_)
 unfold rule_holding_2_s0 at h
 refine kSR ?_
 refine kC 2 [1,2,3] ?_
 refine kEN ?_
 obtain ⟨s4, hy6, h8⟩ := bindS h
 refine K.cutN (by kernel_rfl) (fun (s4 : Bool) => ([(3, .bool s4)], [.box [.int .i64 x1]])) s4 ?_ ?_
 ·refine kR ?_
  refine kC 5 [1,2,3,8] ?_
  refine kB 8 hy6 (fun h10 => ?_) (fun h11 => ?_)
  ·refine kC 6 [3] ?_
   refine kE ?_
   obtain rfl := oi h10
   refine kW (L2 := [(3, .bool (decide (x1 ≤ x0.a1_)))]) (H2 := [.box [.int .i64 x1]]) hFH hFD [0] ?_
   exact kN [3]
  ·refine kC 6 [3] ?_
   refine kE ?_
   obtain rfl := oi h11
   refine kW (L2 := [(3, .bool false)]) (H2 := [.box [.int .i64 x1]]) hFH hFD [0] ?_
   exact kN [3]
 ·refine kX ?_
  obtain rfl := oi h8
  exact kV [0] hFn hFH hFD (v1 := .bool s4)
def slices_IndexFunc_s1 (x0 : List St80) (x1 : Int) : Option (Int) :=
 (Option.bind (loopN (fun (s54 : Int) => (bif (decide (s54 < (x0.length : Int))) then (bif inR s54 x0.length then (Option.bind (rule_holding_2_s0 (nth x0 s54) x1) fun y91 => (bif y91 then (some (.inr (.inr s54))) else (some (.inl (IntKind.wrap .i64 (s54 + 1)))))) else none) else (some (.inr (.inl ()))))) big 0) (joinX fun (s49 : Unit) => (some (-1))))
theorem slices_IndexFunc_s1_ok {x0 : List St80} {x1 : Int} {r : Int} (h : slices_IndexFunc_s1 x0 x1 = some r) : SC Tryz.prog 85 [lsv encSt80 2 x0, .fn (.func 89) [] [.ptr 0 0]] [.box [.int .i64 x1]] (.int .i64 r) [.box [.int .i64 x1]] := by
 refine kFn (fn := Tryz.f85) (fun F hFn hFH hFD => ?_)
 unfold slices_IndexFunc_s1 at h
 refine kSR ?_
 refine kC 1 [0,1,4] ?_
 refine kEN ?_
 obtain ⟨y50, hy51, h52⟩ := bindS h
 refine K.cutX (by kernel_rfl) (fun (s49 : Unit) => ([(4, .int .i64 0)], [.box [.int .i64 x1]])) y50 ?_ (fun s49 hs => ?_)
 ·refine kSR ?_
  refine kC 3 [0,1,4,7,8] ?_
  refine kEN ?_
  refine kb 0 ?_
  refine kl (fun (s54 : Int) => ([(0, lsv encSt80 2 x0), (1, .fn (.func 89) [] [.ptr 0 0]), (4, .int .i64 0), (7, .int .i64 (x0.length : Int)), (8, .int .i64 s54)], [.box [.int .i64 x1]])) hy51 [0, 1, 4, 7, 8] (fun s54 x86 hs85 => ?_)
  refine kSR ?_
  refine kC 1 [0,1,4,7,8,9] ?_
  refine kEN ?_
  refine kS ?_
  refine kBJ 9 hs85 (fun h88 => ?_) (fun h89 => ?_)
  ·refine kT ?_
   refine kK ?_
   refine PJ.next ?_
   refine kS ?_
   refine kb 1 ?_
   refine kSR ?_
   refine kC 2 [0,1,4,5,7,8] ?_
   refine kEN ?_
   refine kSR ?_
   refine kC 3 [0,1,4,5,7,8,11,12,13] ?_
   obtain ⟨hm, h90⟩ := asrt h88
   refine kI 14 encSt80_len hm ?_
   refine kC 1 [0,1,4,5,7,8,11,15] ?_
   obtain ⟨y91, hy92, h93⟩ := bindS h90
   refine kCG (some 16) (args := [.agg [.int .i64 ((nth x0 s54).a0_), .int .i64 ((nth x0 s54).a1_)], .ptr 0 0]) (v := .bool y91) (H2 := [.box [.int .i64 x1]]) [0] (rule_holding_2_s0_ok hy92) ?_
   refine kEN ?_
   refine kBJ 16 h93 (fun h95 => ?_) (fun h96 => ?_)
   ·refine kT ?_
    refine kSR ?_
    refine kC 2 [0,1,4,7,8] ?_
    refine kEN ?_
    refine kX ?_
    refine PJ.blockRet ?_
    refine PJ.passRet ?_
    obtain rfl := oi h95
    refine PJ.loopOut (fun e => nomatch e) (fun he99 => ?_)
    have h97 := congrArg some he99
    refine PJ.blockRet ?_
    obtain rfl := oi h97
    have h98 := joinX_inr h52
    refine PJ.cutXr (fun e => nomatch e) ?_
    obtain rfl := oi h98
    exact kV [0] hFn hFH hFD (v1 := .int .i64 s54)
   ·refine kF ?_
    refine kK ?_
    refine PJ.blockNormal ?_
    refine PJ.next ?_
    refine kR ?_
    refine kC 2 [0,1,4,7,8] ?_
    refine kE ?_
    obtain rfl := oi h96
    exact kLN [0, 1, 4, 7, 8]
  ·refine kF ?_
   refine K.exit 0 (by kernel_rfl) ?_
   refine PJ.passExit ?_
   obtain rfl := oi h89
   refine PJ.loopOut (fun e => nomatch e) (fun he101 => ?_)
   have h100 := congrArg some he101
   refine PJ.blockOut ?_
   obtain rfl := oi h100
   exact kXl [4]
 ·subst hs
  have h53 := joinX_inl h52
  refine kSR ?_
  refine kC 1 [4] ?_
  refine kEN ?_
  refine kX ?_
  obtain rfl := oi h53
  exact kV [0] hFn hFH hFD (v1 := .int .i64 (-1))
def slices_ContainsFunc_s1 (x0 : List St80) (x1 : Int) : Option (Bool) :=
 (Option.bind (slices_IndexFunc_s1 x0 x1) fun y1 => (some (decide (y1 ≥ 0))))
theorem slices_ContainsFunc_s1_ok {x0 : List St80} {x1 : Int} {r : Bool} (h : slices_ContainsFunc_s1 x0 x1 = some r) : SC Tryz.prog 75 [lsv encSt80 2 x0, .fn (.func 89) [] [.ptr 0 0]] [.box [.int .i64 x1]] (.bool r) [.box [.int .i64 x1]] := by
 refine kFn (fn := Tryz.f75) (fun F hFn hFH hFD => ?_)
 unfold slices_ContainsFunc_s1 at h
 refine kSR ?_
 refine kC 1 [0,1,4] ?_
 refine kEN ?_
 refine kSR ?_
 refine kC 2 [4,5,6] ?_
 obtain ⟨y1, hy2, h3⟩ := bindS h
 refine kCG (some 7) (args := [lsv encSt80 2 x0, .fn (.func 89) [] [.ptr 0 0]]) (v := .int .i64 y1) (H2 := [.box [.int .i64 x1]]) [0] (slices_IndexFunc_s1_ok hy2) ?_
 refine kC 2 [4] ?_
 refine kEN ?_
 refine kX ?_
 obtain rfl := oi h3
 exact kV [0] hFn hFH hFD (v1 := .bool (decide (y1 ≥ 0)))
def rule_asks_1_s0 (x0 : St75) (x1 : List Int) (x2 : List Int) (x3 : Int) (x4 : Int) : Option (Bool) :=
 (Option.bind (oper_Operand (⟨x1, x2, x3, x4⟩ : St33) x0.Op_) fun y1 => (Option.bind (bif y1.2 then (Option.bind (rule_holding_s0 y1.1 x0.Mod_) fun y29 => (Sum.elim (fun y32 => (Option.bind (slices_ContainsFunc_s0 x0.R_ y1.1) fun y36 => (some y36))) (fun y33 => (Option.bind (slices_ContainsFunc_s1 x0.R_ y33) fun y40 => (some y40))) y29)) else (some false)) fun (s21 : Bool) => (some (s21 != x0.Not_))))
theorem rule_asks_1_s0_ok {x0 : St75} {x1 : List Int} {x2 : List Int} {x3 : Int} {x4 : Int} {r : Bool} (h : rule_asks_1_s0 x0 x1 x2 x3 x4 = some r) : SC Tryz.prog 73 [.agg (encSt75 x0), .ptr 0 0] [.box [lsv (encI .u8) 1 x1, lsv (encI .u8) 1 x2, .int .i64 x3, .int .i64 x4]] (.bool r) [.box [lsv (encI .u8) 1 x1, lsv (encI .u8) 1 x2, .int .i64 x3, .int .i64 x4]] := by
 refine kFn (fn := Tryz.f73) (fun F hFn hFH hFD => ?_)
 unfold rule_asks_1_s0 at h
 refine kSR ?_
 refine kC 2 [1,2,3] ?_
 refine kEN ?_
 refine kSR ?_
 refine kC 3 [2,3,8,10] ?_
 obtain ⟨y1, hy2, h3⟩ := bindS h
 refine kA 11 (oper_Operand_ok hy2) ?_
 refine kC 5 [2,3,4,5] ?_
 refine kEN ?_
 obtain ⟨s21, hy23, h25⟩ := bindS h3
 refine K.cutN (by kernel_rfl) (fun (s21 : Bool) => ([(2, .ptr 1 0), (3, .bool false), (6, .bool s21)], [.box [lsv (encI .u8) 1 x1, lsv (encI .u8) 1 x2, .int .i64 x3, .int .i64 x4], .box (encSt75 x0)])) s21 ?_ ?_
 ·refine J.keep [2, 3, 4, 5] (L2 := [(2, .ptr 1 0), (3, .bool false), (4, lsv (encI .u8) 1 y1.1), (5, .bool y1.2)]) (by kernel_rfl) ?_
  refine K.draw (by kernel_rfl) (by kernel_rfl) (by kernel_rfl) (H2 := [.box [lsv (encI .u8) 1 x1, lsv (encI .u8) 1 x2, .int .i64 x3, .int .i64 x4], .box (encSt75 x0), .res, .res]) (by kernel_rfl) (n := 2) (by kernel_rfl) ?_
  refine kD 2 ?_
  refine kB 15 hy23 (fun h27 => ?_) (fun h28 => ?_)
  ·refine kD 5 ?_
   obtain ⟨y29, hy30, h31⟩ := bindS h27
   rcases y29 with y32 | y33
   ·have h34 := elimL h31
    refine RJ.callM (d := (some 21)) (f := 76) (args := [lsv (encI .u8) 1 y1.1, .int .i64 x0.Mod_]) (v0 := .fn (.func 86) [] [.ptr 0 0]) (v := .fn (.func 86) [] [.ptr 2 0]) (en0 := .box [lsv (encI .u8) 1 y1.1]) (tr2 := [([], []), ([], []), ([], []), ([2, 3], []), ([], []), ([], []), ([2, 3], []), ([], [4, 5, 4, 5])]) (H2 := [.box [lsv (encI .u8) 1 x1, lsv (encI .u8) 1 x2, .int .i64 x3, .int .i64 x4], .box (encSt75 x0), .box [lsv (encI .u8) 1 y1.1], .res]) 2 (by kernel_rfl) (by kernel_rfl) (by kernel_rfl) (by kernel_rfl) (.cons (Le.refl _) (.cons (Le.refl _) .nil)) (rule_holding_s0_ok0 hy30) (by kernel_rfl) (by kernel_rfl) ?_ (hE := ern_box (by kernel_rfl))
    obtain ⟨y36, hy37, h38⟩ := bindS h34
    refine RJ.callU (d := (some 22)) (f := 75) (args := [lsv encSt80 2 x0.R_, .fn (.func 86) [] [.ptr 2 0]]) (args0 := [lsv encSt80 2 x0.R_, .fn (.func 86) [] [.ptr 0 0]]) (v := .bool y36) (tr2 := [([], []), ([], []), ([], []), ([2, 3], []), ([], []), ([], []), ([2, 3], []), ([], [4, 5, 4, 5]), ([4, 5], [6, 7])]) (H0 := [.box [lsv (encI .u8) 1 y1.1]]) [2] (by kernel_rfl) (by kernel_rfl) (by kernel_rfl) (by kernel_rfl) (by decide) (by kernel_rfl) (by kernel_rfl) (by kernel_rfl) (.cons (Le.refl _) (.cons (Le.refl _) .nil)) (slices_ContainsFunc_s0_ok hy37) (by kernel_rfl) ?_
    refine kD 2 ?_
    refine kE ?_
    obtain rfl := oi h38
    refine kW (L2 := [(2, .ptr 1 0), (3, .bool false), (6, .bool y36)]) (H2 := [.box [lsv (encI .u8) 1 x1, lsv (encI .u8) 1 x2, .int .i64 x3, .int .i64 x4], .box (encSt75 x0)]) hFH hFD [0, 1] ?_
    exact kN [2, 3, 6]
   ·have h35 := elimR h31
    refine RJ.callM (d := (some 21)) (f := 76) (args := [lsv (encI .u8) 1 y1.1, .int .i64 x0.Mod_]) (v0 := .fn (.func 89) [] [.ptr 0 0]) (v := .fn (.func 89) [] [.ptr 2 0]) (en0 := .box [.int .i64 y33]) (tr2 := [([], []), ([], []), ([], []), ([2, 3], []), ([], []), ([], []), ([2, 3], []), ([], [4, 5, 4, 5])]) (H2 := [.box [lsv (encI .u8) 1 x1, lsv (encI .u8) 1 x2, .int .i64 x3, .int .i64 x4], .box (encSt75 x0), .box [.int .i64 y33], .res]) 2 (by kernel_rfl) (by kernel_rfl) (by kernel_rfl) (by kernel_rfl) (.cons (Le.refl _) (.cons (Le.refl _) .nil)) (rule_holding_s0_ok1 hy30) (by kernel_rfl) (by kernel_rfl) ?_ (hE := ern_box (by kernel_rfl))
    obtain ⟨y40, hy41, h42⟩ := bindS h35
    refine RJ.callU (d := (some 22)) (f := 75) (args := [lsv encSt80 2 x0.R_, .fn (.func 89) [] [.ptr 2 0]]) (args0 := [lsv encSt80 2 x0.R_, .fn (.func 89) [] [.ptr 0 0]]) (v := .bool y40) (tr2 := [([], []), ([], []), ([], []), ([2, 3], []), ([], []), ([], []), ([2, 3], []), ([], [4, 5, 4, 5]), ([4, 5], [6, 7])]) (H0 := [.box [.int .i64 y33]]) [2] (by kernel_rfl) (by kernel_rfl) (by kernel_rfl) (by kernel_rfl) (by decide) (by kernel_rfl) (by kernel_rfl) (by kernel_rfl) (.cons (Le.refl _) (.cons (Le.refl _) .nil)) (slices_ContainsFunc_s1_ok hy41) (by kernel_rfl) ?_
    refine kD 2 ?_
    refine kE ?_
    obtain rfl := oi h42
    refine kW (L2 := [(2, .ptr 1 0), (3, .bool false), (6, .bool y40)]) (H2 := [.box [lsv (encI .u8) 1 x1, lsv (encI .u8) 1 x2, .int .i64 x3, .int .i64 x4], .box (encSt75 x0)]) hFH hFD [0, 1] ?_
    exact kN [2, 3, 6]
  ·refine kD 9 ?_
   refine kE ?_
   obtain rfl := oi h28
   refine kW (L2 := [(2, .ptr 1 0), (3, .bool false), (6, .bool false)]) (H2 := [.box [lsv (encI .u8) 1 x1, lsv (encI .u8) 1 x2, .int .i64 x3, .int .i64 x4], .box (encSt75 x0)]) hFH hFD [0, 1] ?_
   exact kN [2, 3, 6]
 ·refine kSR ?_
  refine kC 5 [3] ?_
  refine kEN ?_
  refine kX ?_
  obtain rfl := oi h25
  exact kV [0] hFn hFH hFD (v1 := .bool (s21 != x0.Not_))
def rule_Holds (x0 : List (List St75)) (x1 : St33) : Option (Bool) :=
 (Option.bind (rule_asks_s0 x1) fun y1 => (Option.bind (loopN (fun (s678 : Int) => (bif (decide (s678 < (x0.length : Int))) then (Option.bind (bif inR s678 x0.length then (Option.bind (loopN (fun (s1293 : Int) => (bif (decide (s1293 < ((nth x0 s678).length : Int))) then (bif inR s1293 (nth x0 s678).length then (Option.bind (rule_asks_1_s0 (nth (nth x0 s678) s1293) x1.I_ x1.F_ x1.W_ x1.C_) fun y1330 => (bif (!y1330) then (some (.inr (.inr (.inl ())))) else (some (.inl (IntKind.wrap .i64 (s1293 + 1)))))) else none) else (some (.inr (.inl ()))))) big 0) (joinX fun (s1288 : Unit) => (some (.inr (.inr (.inr true)))))) else none) (joinX fun (s1234 : Unit) => (some (.inl (IntKind.wrap .i64 (s678 + 1)))))) else (some (.inr (.inl ()))))) big 0) (joinX fun (s673 : Unit) => (some false))))
theorem rule_Holds_ok {x0 : List (List St75)} {x1 : St33} {r : Bool} (h : rule_Holds x0 x1 = some r) : SC Tryz.prog 50 [lsv (encL encSt75 4) 1 x0, .agg (encSt33 x1)] [] (.bool r) [] := by
 refine kFn (fn := Tryz.f50) (fun F hFn hFH hFD => ?_)
 unfold rule_Holds at h
 refine kSR ?_
 refine kC 2 [0,3,4] ?_
 refine kEN ?_
 refine K.scope (by kernel_rfl) ?_
 refine kSR ?_
 refine kC 1 [0,4,10] ?_
 obtain ⟨y1, hy2, h3⟩ := bindS h
 refine kCG (some 11) (args := [.agg (encSt33 x1)]) (v := .fn (.func 73) [] [.ptr 1 0]) (H2 := [.box (encSt33 x1), .box (encSt33 x1)]) [] (rule_asks_s0_ok hy2) ?_
 refine kC 1 [0,4,5] ?_
 refine kEN ?_
 refine kS ?_
 refine K.label (by kernel_rfl) ?_
 refine PJ.next ?_
 obtain ⟨y674, hy675, h676⟩ := bindS h3
 refine K.cutX (by kernel_rfl) (fun (s673 : Unit) => ([(4, .bool false)], [])) y674 ?_ (fun s673 hs => ?_)
 ·refine kSR ?_
  refine kC 3 [4,5,12,13,14] ?_
  refine kEN ?_
  refine kb 0 ?_
  refine J.wk (Wk.sel (L2 := [(4, .bool false), (5, .fn (.func 73) [] [.ptr 0 0]), (12, lsv (encL encSt75 4) 1 x0), (13, .int .i64 (x0.length : Int)), (14, .int .i64 0)]) (H2 := [.box (encSt33 x1)]) 0 (by rw [hFH]; rfl) hFD [1] (by kernel_rfl) (by kernel_rfl) (by decide) (by kernel_rfl) (by kernel_rfl) (by kernel_rfl) (by kernel_rfl)) ?_
  refine kl (fun (s678 : Int) => ([(4, .bool false), (5, .fn (.func 73) [] [.ptr 0 0]), (12, lsv (encL encSt75 4) 1 x0), (13, .int .i64 (x0.length : Int)), (14, .int .i64 s678)], [.box (encSt33 x1)])) hy675 [4, 5, 12, 13, 14] (fun s678 x1124 hs1123 => ?_)
  refine kSR ?_
  refine kC 1 [4,5,12,13,14,15] ?_
  refine kEN ?_
  refine kS ?_
  refine kBJ 15 hs1123 (fun h1126 => ?_) (fun h1127 => ?_)
  ·refine kT ?_
   refine kK ?_
   refine PJ.next ?_
   obtain ⟨y1235, hy1236, h1237⟩ := bindS h1126
   refine K.cutX (by kernel_rfl) (fun (s1234 : Unit) => ([(4, .bool false), (5, .fn (.func 73) [] [.ptr 0 0]), (12, lsv (encL encSt75 4) 1 x0), (13, .int .i64 (x0.length : Int)), (14, .int .i64 s678)], [.box (encSt33 x1)])) y1235 ?_ (fun s1234 hs => ?_)
   ·refine kb 1 ?_
    refine kSR ?_
    obtain ⟨hm, h1239⟩ := asrt hy1236
    refine kI 16 (encL_len encSt75 4) hm ?_
    refine kC 2 [4,5,7,12,13,14] ?_
    refine kEN ?_
    obtain ⟨y1289, hy1290, h1291⟩ := bindS h1239
    refine K.cutX (by kernel_rfl) (fun (s1288 : Unit) => ([(4, .bool false), (5, .fn (.func 73) [] [.ptr 0 0]), (12, lsv (encL encSt75 4) 1 x0), (13, .int .i64 (x0.length : Int)), (14, .int .i64 s678)], [.box (encSt33 x1)])) y1289 ?_ (fun s1288 hs => ?_)
    ·refine kSR ?_
     refine kC 3 [4,5,12,13,14,18,19,20] ?_
     refine kEN ?_
     refine kb 2 ?_
     refine kl (fun (s1293 : Int) => ([(4, .bool false), (5, .fn (.func 73) [] [.ptr 0 0]), (12, lsv (encL encSt75 4) 1 x0), (13, .int .i64 (x0.length : Int)), (14, .int .i64 s678), (18, lsv encSt75 4 (nth x0 s678)), (19, .int .i64 ((nth x0 s678).length : Int)), (20, .int .i64 s1293)], [.box (encSt33 x1)])) hy1290 [4, 5, 12, 13, 14, 18, 19, 20] (fun s1293 x1325 hs1324 => ?_)
     refine kSR ?_
     refine kC 1 [4,5,12,13,14,18,19,20,21] ?_
     refine kEN ?_
     refine kS ?_
     refine kBJ 21 hs1324 (fun h1327 => ?_) (fun h1328 => ?_)
     ·refine kT ?_
      refine kK ?_
      refine PJ.next ?_
      refine kS ?_
      refine kb 3 ?_
      refine kSR ?_
      obtain ⟨hm, h1329⟩ := asrt h1327
      refine kI 22 encSt75_len hm ?_
      refine kC 3 [4,5,9,12,13,14,18,19,20] ?_
      refine kEN ?_
      refine kSR ?_
      refine kC 2 [4,5,12,13,14,18,19,20,24,25] ?_
      obtain ⟨y1330, hy1331, h1332⟩ := bindS h1329
      refine kCG (some 26) (args := [.agg [.int .u8 ((nth (nth x0 s678) s1293).Op_), .int .i64 ((nth (nth x0 s678) s1293).Mod_), .bool ((nth (nth x0 s678) s1293).Not_), lsv encSt80 2 ((nth (nth x0 s678) s1293).R_)], .ptr 0 0]) (v := .bool y1330) (H2 := [.box (encSt33 x1), .box [.int .u8 ((nth (nth x0 s678) s1293).Op_), .int .i64 ((nth (nth x0 s678) s1293).Mod_), .bool ((nth (nth x0 s678) s1293).Not_), lsv encSt80 2 ((nth (nth x0 s678) s1293).R_)]]) [0] (rule_asks_1_s0_ok hy1331) ?_
      refine kC 1 [4,5,12,13,14,18,19,20,27] ?_
      refine kEN ?_
      refine kBJ 27 h1332 (fun h1334 => ?_) (fun h1335 => ?_)
      ·refine kT ?_
       refine K.exit 1 (by kernel_rfl) ?_
       refine PJ.blockPass (by kernel_rfl) ?_
       refine PJ.passExit ?_
       obtain rfl := oi h1334
       refine PJ.loopOut (fun e => nomatch e) (fun he1338 => ?_)
       have h1336 := congrArg some he1338
       refine PJ.blockPass (by kernel_rfl) ?_
       obtain rfl := oi h1336
       have h1337 := joinX_inr h1291
       refine PJ.cutXr (fun e => nomatch e) ?_
       refine PJ.blockOut ?_
       obtain rfl := oi h1337
       refine kW (L2 := [(4, .bool false), (5, .fn (.func 73) [] [.ptr 0 0]), (12, lsv (encL encSt75 4) 1 x0), (13, .int .i64 (x0.length : Int)), (14, .int .i64 s678)]) (H2 := [.box (encSt33 x1)]) hFH hFD [0] ?_
       exact kXl [4, 5, 12, 13, 14]
      ·refine kF ?_
       refine kK ?_
       refine PJ.blockNormal ?_
       refine PJ.next ?_
       refine kR ?_
       refine kC 2 [4,5,12,13,14,18,19,20] ?_
       refine kE ?_
       obtain rfl := oi h1335
       refine kW (L2 := [(4, .bool false), (5, .fn (.func 73) [] [.ptr 0 0]), (12, lsv (encL encSt75 4) 1 x0), (13, .int .i64 (x0.length : Int)), (14, .int .i64 s678), (18, lsv encSt75 4 (nth x0 s678)), (19, .int .i64 ((nth x0 s678).length : Int)), (20, .int .i64 (IntKind.wrap .i64 (s1293 + 1)))]) (H2 := [.box (encSt33 x1)]) hFH hFD [0] ?_
       exact kLN [4, 5, 12, 13, 14, 18, 19, 20]
     ·refine kF ?_
      refine K.exit 2 (by kernel_rfl) ?_
      refine PJ.passExit ?_
      obtain rfl := oi h1328
      refine PJ.loopOut (fun e => nomatch e) (fun he1340 => ?_)
      have h1339 := congrArg some he1340
      refine PJ.blockOut ?_
      obtain rfl := oi h1339
      exact kXl [4, 5, 12, 13, 14]
    ·subst hs
     have h1292 := joinX_inl h1291
     refine kSR ?_
     refine kC 1 [4,5,12,13,14] ?_
     refine kEN ?_
     refine kX ?_
     refine PJ.blockRet ?_
     obtain rfl := oi h1292
     have h1341 := joinX_inr h1237
     refine PJ.cutXr (fun e => nomatch e) ?_
     obtain rfl := oi h1341
     refine PJ.loopOut (fun e => nomatch e) (fun he1344 => ?_)
     have h1342 := congrArg some he1344
     refine PJ.blockRet ?_
     obtain rfl := oi h1342
     have h1343 := joinX_inr h676
     refine PJ.cutXr (fun e => nomatch e) ?_
     refine PJ.scR ?_
     obtain rfl := oi h1343
     exact kZ hFn hFH hFD
   ·subst hs
    have h1238 := joinX_inl h1237
    refine kR ?_
    refine kC 2 [4,5,12,13,14] ?_
    refine kE ?_
    obtain rfl := oi h1238
    exact kLN [4, 5, 12, 13, 14]
  ·refine kF ?_
   refine K.exit 0 (by kernel_rfl) ?_
   refine PJ.passExit ?_
   obtain rfl := oi h1127
   refine PJ.loopOut (fun e => nomatch e) (fun he1346 => ?_)
   have h1345 := congrArg some he1346
   refine PJ.blockOut ?_
   obtain rfl := oi h1345
   refine kW (L2 := [(4, .bool false)]) (H2 := []) hFH hFD [] ?_
   exact kXl [4]
 ·subst hs
  have h677 := joinX_inl h676
  refine kSR ?_
  refine kC 1 [4] ?_
  refine kEN ?_
  refine kX ?_
  refine PJ.scR ?_
  obtain rfl := oi h677
  exact kZ hFn hFH hFD
def plur_Of (x0 : List St46) (x1 : St33) : Option (Int) :=
 (Option.bind (loopN (fun (s1 : Int) => (bif (decide (s1 < (x0.length : Int))) then (bif inR s1 x0.length then (Option.bind (rule_Holds (nth x0 s1).C_ x1) fun y1 => (bif y1 then (some (.inr (.inr ((nth x0 s1).Cat_)))) else (some (.inl (IntKind.wrap .i64 (s1 + 1)))))) else none) else (some (.inr (.inl ()))))) big 0) (joinX fun (_ : Unit) => (some 0)))
theorem plur_Of_seq {x0 : List St46} {x1 : St33} : SC Tryz.prog 36 [lsv encSt46 2 x0, .agg (encSt33 x1)] [] (.fn (.func 49) [] [.ptr 0 0, .ptr 1 0]) [.box [lsv encSt46 2 x0], .box (encSt33 x1)] := by
 refine kFn (fn := Tryz.f36) (fun F hFn hFH hFD => ?_)
 refine kSR ?_
 refine kC 3 [2,3,4] ?_
 refine kEN ?_
 refine kSR ?_
 refine kC 2 [4] ?_
 refine kEN ?_
 refine kX ?_
 exact kV [0, 1] hFn hFH hFD (v1 := .fn (.func 49) [] [.ptr 0 0, .ptr 1 0])
theorem plur_Of_it {x0 : List St46} {x1 : St33} {q : Unit ⊕ Int} (hq : loopN (fun (s1 : Int) => (bif (decide (s1 < (x0.length : Int))) then (bif inR s1 x0.length then (Option.bind (rule_Holds (nth x0 s1).C_ x1) fun y1 => (bif y1 then (some (.inr (.inr ((nth x0 s1).Cat_)))) else (some (.inl (IntKind.wrap .i64 (s1 + 1)))))) else none) else (some (.inr (.inl ()))))) big 0 = some q)
  (l : Nat) (F1 : Fr) (RE : World → Int → World → Prop) (hN : F1.n = 23) (hFH : F1.H0 = [.box [lsv encSt46 2 x0], .box (encSt33 x1)]) (hFD : ∀ i, F1.H0.length ≤ i → F1.D0 i = none) (hY : YW Tryz.prog F1 l RE) :
  J F1 Tryz.prog (bodyC Tryz.f49) (initL 0 [.fn (.yield l) [] [], .ptr 0 0, .ptr 1 0]) [.box [lsv encSt46 2 x0], .box (encSt33 x1)] (QI F1 RE (Sum.elim (fun _ => none) some q)) := by
 refine kSR ?_
 refine kC 3 [0,1,2,6,7,8] ?_
 refine kEN ?_
 refine kb 0 ?_
 refine kl (fun (s1 : Int) => ([(0, .fn (.yield l) [] []), (1, .ptr 0 0), (2, .ptr 1 0), (6, lsv encSt46 2 x0), (7, .int .i64 (x0.length : Int)), (8, .int .i64 s1)], [.box [lsv encSt46 2 x0], .box (encSt33 x1)])) hq [0, 1, 2, 6, 7, 8] (fun s1 x86 hs85 => ?_)
 refine kSR ?_
 refine kC 1 [0,1,2,6,7,8,9] ?_
 refine kEN ?_
 refine kS ?_
 refine kBJ 9 hs85 (fun h88 => ?_) (fun h89 => ?_)
 ·refine kT ?_
  refine kK ?_
  refine PJ.next ?_
  refine kS ?_
  refine kb 1 ?_
  refine kSR ?_
  obtain ⟨hm, h90⟩ := asrt h88
  refine kI 10 encSt46_len hm ?_
  refine kC 3 [0,1,2,5,6,7,8] ?_
  refine kEN ?_
  refine kS ?_
  refine J.regI 0 ?_
  refine RJi.pre (N := 23) wd_wide 5 hN ?_
  refine kC 3 [0,1,2,5,6,7,8,13,14] ?_
  obtain ⟨y91, hy92, h93⟩ := bindS h90
  refine kA 15 (rule_Holds_ok hy92) ?_
  refine kC 1 [0,1,2,5,6,7,8,16] ?_
  refine kE ?_
  refine RJi.nx ?_
  cases y91 with
  | true =>
   obtain rfl := oi h93
   refine RJi.pre (N := 23) wd_wide 7 hN ?_
   refine kC 2 [16,17,18] ?_
   refine kE ?_
   refine RJi.nx ?_
   refine K.yield (N := 23) (l := l) (d := 19) (d1 := 16) (b1 := true) (sv := .agg (encSt46 (nth x0 s1))) (cat := (nth x0 s1).Cat_) (s2 := lsv (encL encSt75 4) 1 (nth x0 s1).C_) hN (by kernel_rfl) rfl rfl (by kernel_rfl) (by kernel_rfl) hY (fun w' K' hf => ?_)
   refine RJi.pre (N := 23) wd_wide 10 rfl ?_
   refine kC 2 [21] ?_
   refine kE ?_
   refine RJi.nx ?_
   refine RJi.done ?_
   refine PJ.nextF hN.symm ?_
   refine kT ?_
   refine kX ?_
   refine PJ.blockRet ?_
   refine PJ.passRetF ?_
   refine PJ.loopOutF (fun e => nomatch e) (fun he99 => ?_)
   subst he99
   refine PJ.blockRet ?_
   exact PJ.iterSome (.inr rfl) hf
  | false =>
   obtain rfl := oi h93
   refine RJi.pre (N := 23) wd_wide 10 hN ?_
   refine kC 5 [0,1,2,6,7,8,21] ?_
   refine kE ?_
   refine RJi.nx ?_
   refine RJi.done ?_
   refine PJ.next ?_
   refine kF ?_
   refine kK ?_
   refine PJ.blockNormal ?_
   refine PJ.next ?_
   refine kR ?_
   refine kC 2 [0,1,2,6,7,8] ?_
   refine kE ?_
   refine kW (L2 := [(0, .fn (.yield l) [] []), (1, .ptr 0 0), (2, .ptr 1 0), (6, lsv encSt46 2 x0), (7, .int .i64 (x0.length : Int)), (8, .int .i64 (IntKind.wrap .i64 (s1 + 1)))]) (H2 := [.box [lsv encSt46 2 x0], .box (encSt33 x1)]) hFH hFD [0, 1] ?_
   exact kLN [0, 1, 2, 6, 7, 8]
 ·refine kF ?_
  refine K.exit 0 (by kernel_rfl) ?_
  refine PJ.passExit ?_
  obtain rfl := oi h89
  refine PJ.loopOut (fun e => nomatch e) (fun he101 => ?_)
  subst he101
  refine PJ.blockOut ?_
  exact PJ.iterNone (.inl rfl)
theorem plur_Of_ok {x0 : List St46} {x1 : St33} {r : Int} (h : plur_Of x0 x1 = some r) : SC Tryz.prog 21 [lsv encSt46 2 x0, .agg (encSt33 x1)] [] (.int .i64 r) [] := by
 unfold plur_Of at h
 obtain ⟨q, hq, h2⟩ := bindS h
 refine K.fnM (fn := Tryz.f21) (fun F hFn hFH hFD hFK => ?_)
 refine kSR ?_
 refine kC 2 [0,3,4] ?_
 refine kEN ?_
 refine kS ?_
 refine kSR ?_
 refine kC 2 [4,6,7] ?_
 refine RJ.callG (d := (some 8)) (f := 36) (args := [lsv encSt46 2 x0, .agg (encSt33 x1)]) (args0 := [lsv encSt46 2 x0, .agg (encSt33 x1)]) (v0 := .fn (.func 49) [] [.ptr 0 0, .ptr 1 0]) (v := .fn (.func 49) [] [.ptr 2 0, .ptr 3 0]) (tr2 := []) (H0 := []) (H0' := [.box [lsv encSt46 2 x0], .box (encSt33 x1)]) (H2 := [.box (encSt33 x1), .box [.int .i64 0], .box [lsv encSt46 2 x0], .box (encSt33 x1)]) []
  (by kernel_rfl) (by kernel_rfl) (by kernel_rfl) (by kernel_rfl) (by decide) (by kernel_rfl) (by kernel_rfl) (by kernel_rfl) (.cons (Le.refl _) (.cons (Le.refl _) .nil)) plur_Of_seq (by kernel_rfl) (by kernel_rfl) (by kernel_rfl) ?_
 refine kEN ?_
 refine kb 0 ?_
 refine K.ranged (g := 49) Tryz.f49 12 4 8 9 3 2 3 1 (c2 := [lsv encSt46 2 x0]) (c3 := encSt33 x1) (x := r) (y := 0) (x4 := 0) (out := Sum.elim (fun _ => none) some q) hFn hFH hFD hFK (by kernel_rfl) (by kernel_rfl) (by kernel_rfl) (by kernel_rfl) (by kernel_rfl) (by kernel_rfl) (by kernel_rfl) (by kernel_rfl) (by kernel_rfl) (by kernel_rfl) (by kernel_rfl)
  (by kernel_rfl) (by kernel_rfl) (by kernel_rfl) (by kernel_rfl) (by kernel_rfl) (by kernel_rfl) (by kernel_rfl) (by kernel_rfl) (by kernel_rfl) (by kernel_rfl) (by kernel_rfl) (by kernel_rfl) (by kernel_rfl) (by kernel_rfl) (by kernel_rfl) (by kernel_rfl) ?_ ?_ (plur_Of_it hq) (fun l cat s2 hs2 => ?_)
 ·intro ho
  cases q with
  | inl u => have h3 := joinX_inl h2; exact oi h3
  | inr v => cases ho
 ·intro cat ho
  cases q with
  | inl u => cases ho
  | inr v =>
   have h3 := joinX_inr h2
   have h4 := oi h3
   cases ho; exact h4
 ·refine ⟨[(4, .ptr 0 0), (5, .ptr 1 0)], [(4, .ptr 0 0)], [.box [.int .i64 0], .box [.int .i64 cat, s2]], [.box [.int .i64 cat], .box [.int .i64 cat, s2]], fun F' hF' => ?_, fun F' hF' => ?_, rfl⟩
  ·refine Ji.region ?_
   refine RJi.pre (N := 12) (wd_round l) 2 hF' ?_
   refine kC 2 [4,5] ?_
   refine kE ?_
   refine RJi.nx ?_
   exact RJi.done (fun a w hs => ⟨rfl, hs⟩)
  ·refine Ji.block 1 ?_
   refine Ji.seq ?_
   refine Ji.region ?_
   refine RJi.pre (N := 12) (wd_round l) 3 hF' ?_
   refine kC 3 [4] ?_
   refine kE ?_
   refine RJi.nx ?_
   refine RJi.done ?_
   refine Ji.retN ?_
   exact fun a w hs => ⟨rfl, hs⟩
def plur_Name (x0 : Int) : Option (List UInt8) :=
 (Option.bind plur_names fun y1 => (Option.bind (Option.bind (bif (decide (x0 < 0)) then (some true) else (some (decide (x0 ≥ 6)))) fun (s27 : Bool) => (bif s27 then (some (.inr ([] : List UInt8))) else (some (.inl ())))) (joinX fun (s19 : Unit) => (bif (decide (x0 = 0)) then (some y1.a0_) else (bif (decide (x0 = 1)) then (some y1.a1_) else (bif (decide (x0 = 2)) then (some y1.a2_) else (bif (decide (x0 = 3)) then (some y1.a3_) else (bif (decide (x0 = 4)) then (some y1.a4_) else (bif (decide (x0 = 5)) then (some y1.a5_) else none)))))))))
theorem plur_Name_ok {x0 : Int} {r : List UInt8} (h : plur_Name x0 = some r) : SC Tryz.prog 18 [.int .i64 x0] [] (.str r) [] := by
 refine kFn (fn := Tryz.f18) (fun F hFn hFH hFD => ?_)
 unfold plur_Name at h
 refine kSR ?_
 refine kC 1 [0,2] ?_
 refine kEN ?_
 refine kSR ?_
 obtain ⟨y1, hy2, h3⟩ := bindS h
 refine kA 4 (plur_names_ok hy2) ?_
 refine kC 2 [0,2,3] ?_
 refine kEN ?_
 obtain ⟨y20, hy21, h22⟩ := bindS h3
 refine K.cutX (by kernel_rfl) (fun (s19 : Unit) => ([(0, .int .i64 x0), (2, .str ([] : List UInt8)), (3, .ptr 0 0)], [.box (encSt60 y1)])) y20 ?_ (fun s19 hs => ?_)
 ·obtain ⟨s27, hy29, h31⟩ := bindS hy21
  refine K.cutN (by kernel_rfl) (fun (s27 : Bool) => ([(0, .int .i64 x0), (2, .str ([] : List UInt8)), (3, .ptr 0 0), (10, .bool s27)], [.box (encSt60 y1)])) s27 ?_ ?_
  ·refine kR ?_
   refine kC 3 [0,2,3,7] ?_
   refine kB 7 hy29 (fun h33 => ?_) (fun h34 => ?_)
   ·refine kC 3 [0,2,3,10] ?_
    refine kE ?_
    obtain rfl := oi h33
    exact kN [0, 2, 3, 10]
   ·refine kC 3 [0,2,3,10] ?_
    refine kE ?_
    obtain rfl := oi h34
    exact kN [0, 2, 3, 10]
  ·refine kBJ 10 h31 (fun h36 => ?_) (fun h37 => ?_)
   ·refine kT ?_
    refine kSR ?_
    refine kC 1 [0,2,3] ?_
    refine kEN ?_
    refine kX ?_
    obtain rfl := oi h36
    have h38 := joinX_inr h22
    refine PJ.cutXr (fun e => nomatch e) ?_
    obtain rfl := oi h38
    exact kZ hFn hFH hFD
   ·refine kF ?_
    refine kK ?_
    obtain rfl := oi h37
    exact kXl [0, 2, 3]
 ·subst hs
  have h23 := joinX_inl h22
  refine kSR ?_
  refine kC 1 [2,3,11] ?_
  cases hb39 : (decide (x0 = 0))
  ·have h41 := condF hb39 h23
   cases hb42 : (decide (x0 = 1))
   ·have h44 := condF hb42 h41
    cases hb45 : (decide (x0 = 2))
    ·have h47 := condF hb45 h44
     cases hb48 : (decide (x0 = 3))
     ·have h50 := condF hb48 h47
      cases hb51 : (decide (x0 = 4))
      ·have h53 := condF hb51 h50
       cases hb54 : (decide (x0 = 5))
       ·have h56 := condF hb54 h53
        cases h56
       ·have h55 := condT hb54 h53
        refine RJ.pin 11 (kd := .i64) (by kernel_rfl) (of_decide_eq_true hb54) ?_
        refine kC 3 [2] ?_
        refine kEN ?_
        refine kX ?_
        obtain rfl := oi h55
        exact kZ hFn hFH hFD
      ·have h52 := condT hb51 h50
       refine RJ.pin 11 (kd := .i64) (by kernel_rfl) (of_decide_eq_true hb51) ?_
       refine kC 3 [2] ?_
       refine kEN ?_
       refine kX ?_
       obtain rfl := oi h52
       exact kZ hFn hFH hFD
     ·have h49 := condT hb48 h47
      refine RJ.pin 11 (kd := .i64) (by kernel_rfl) (of_decide_eq_true hb48) ?_
      refine kC 3 [2] ?_
      refine kEN ?_
      refine kX ?_
      obtain rfl := oi h49
      exact kZ hFn hFH hFD
    ·have h46 := condT hb45 h44
     refine RJ.pin 11 (kd := .i64) (by kernel_rfl) (of_decide_eq_true hb45) ?_
     refine kC 3 [2] ?_
     refine kEN ?_
     refine kX ?_
     obtain rfl := oi h46
     exact kZ hFn hFH hFD
   ·have h43 := condT hb42 h41
    refine RJ.pin 11 (kd := .i64) (by kernel_rfl) (of_decide_eq_true hb42) ?_
    refine kC 3 [2] ?_
    refine kEN ?_
    refine kX ?_
    obtain rfl := oi h43
    exact kZ hFn hFH hFD
  ·have h40 := condT hb39 h23
   refine RJ.pin 11 (kd := .i64) (by kernel_rfl) (of_decide_eq_true hb39) ?_
   refine kC 3 [2] ?_
   refine kEN ?_
   refine kX ?_
   obtain rfl := oi h40
   exact kZ hFn hFH hFD
def plur_Right (x0 : List St46) : Option (Bool) :=
 (Option.bind (loopN (fun (s447 : Int × Int) => (bif (decide (s447.2 < (x0.length : Int))) then (Option.bind (bif inR s447.2 x0.length then (Option.bind (Option.bind (Option.bind (plur_rises s447.1 ((nth x0 s447.2).Cat_)) fun y869 => (bif (!y869) then (some true) else (Option.bind (rule_Right ((nth x0 s447.2).C_)) fun y875 => (some (!y875))))) fun (s864 : Bool) => (bif s864 then (some (.inr (.inr (.inr (.inr false))))) else (some (.inl ())))) (joinX fun (s850 : Unit) => (some (.inl ())))) else none) (joinX fun (s813 : Unit) => (some (.inl ((nth x0 s447.2).Cat_, (IntKind.wrap .i64 (s447.2 + 1))))))) else (some (.inr (.inl ()))))) big (0, 0)) (joinX fun (s442 : Unit) => (some true)))
theorem plur_Right_ok {x0 : List St46} {r : Bool} (h : plur_Right x0 = some r) : SC Tryz.prog 17 [lsv encSt46 2 x0] [] (.bool r) [] := by
 refine kFn (fn := Tryz.f17) (fun F hFn hFH hFD => ?_)
 unfold plur_Right at h
 refine kSR ?_
 refine kC 1 [0,2] ?_
 refine kEN ?_
 refine kSR ?_
 refine kC 1 [0,2,3] ?_
 refine kEN ?_
 obtain ⟨y443, hy444, h445⟩ := bindS h
 refine K.cutX (by kernel_rfl) (fun (s442 : Unit) => ([(2, .bool false)], [])) y443 ?_ (fun s442 hs => ?_)
 ·refine kSR ?_
  refine kC 3 [2,3,6,7,8] ?_
  refine kEN ?_
  refine kb 0 ?_
  refine kl (fun (s447 : Int × Int) => ([(2, .bool false), (3, .int .i64 s447.1), (6, lsv encSt46 2 x0), (7, .int .i64 (x0.length : Int)), (8, .int .i64 s447.2)], [])) hy444 [2, 3, 6, 7, 8] (fun s447 x741 hs740 => ?_)
  refine kSR ?_
  refine kC 1 [2,3,6,7,8,9] ?_
  refine kEN ?_
  refine kS ?_
  refine kBJ 9 hs740 (fun h743 => ?_) (fun h744 => ?_)
  ·refine kT ?_
   refine kK ?_
   refine PJ.next ?_
   obtain ⟨y814, hy815, h816⟩ := bindS h743
   refine K.cutX (by kernel_rfl) (fun (s813 : Unit) => ([(2, .bool false), (3, .int .i64 ((nth x0 s447.2).Cat_)), (6, lsv encSt46 2 x0), (7, .int .i64 (x0.length : Int)), (8, .int .i64 s447.2)], [])) y814 ?_ (fun s813 hs => ?_)
   ·refine kb 1 ?_
    refine kSR ?_
    obtain ⟨hm, h818⟩ := asrt hy815
    refine kI 10 encSt46_len hm ?_
    refine kC 3 [2,3,5,6,7,8] ?_
    refine kEN ?_
    obtain ⟨y851, hy852, h853⟩ := bindS h818
    refine K.cutX (by kernel_rfl) (fun (s850 : Unit) => ([(2, .bool false), (3, .int .i64 s447.1), (5, .ptr 0 0), (6, lsv encSt46 2 x0), (7, .int .i64 (x0.length : Int)), (8, .int .i64 s447.2)], [.box [.int .i64 ((nth x0 s447.2).Cat_), lsv (encL encSt75 4) 1 ((nth x0 s447.2).C_)]])) y851 ?_ (fun s850 hs => ?_)
    ·obtain ⟨s864, hy866, h868⟩ := bindS hy852
     refine K.cutN (by kernel_rfl) (fun (s864 : Bool) => ([(2, .bool false), (3, .int .i64 s447.1), (5, .ptr 0 0), (6, lsv encSt46 2 x0), (7, .int .i64 (x0.length : Int)), (8, .int .i64 s447.2), (22, .bool s864)], [.box [.int .i64 ((nth x0 s447.2).Cat_), lsv (encL encSt75 4) 1 ((nth x0 s447.2).C_)]])) s864 ?_ ?_
     ·refine kR ?_
      refine kC 3 [2,3,5,6,7,8,12,14] ?_
      obtain ⟨y869, hy870, h871⟩ := bindS hy866
      refine kA 15 (plur_rises_ok hy870) ?_
      refine kC 2 [2,3,5,6,7,8,17] ?_
      refine kB 17 h871 (fun h873 => ?_) (fun h874 => ?_)
      ·refine kC 5 [2,3,5,6,7,8,22] ?_
       refine kE ?_
       obtain rfl := oi h873
       exact kN [2, 3, 5, 6, 7, 8, 22]
      ·refine kC 2 [2,3,5,6,7,8,17,19] ?_
       obtain ⟨y875, hy876, h877⟩ := bindS h874
       refine kA 20 (rule_Right_ok hy876) ?_
       refine kC 2 [2,3,5,6,7,8,22] ?_
       refine kE ?_
       obtain rfl := oi h877
       exact kN [2, 3, 5, 6, 7, 8, 22]
     ·refine kBJ 22 h868 (fun h879 => ?_) (fun h880 => ?_)
      ·refine kT ?_
       refine kSR ?_
       refine kC 1 [2,3,5,6,7,8] ?_
       refine kEN ?_
       refine kX ?_
       obtain rfl := oi h879
       have h881 := joinX_inr h853
       refine PJ.cutXr (fun e => nomatch e) ?_
       refine PJ.blockRet ?_
       obtain rfl := oi h881
       have h882 := joinX_inr h816
       refine PJ.cutXr (fun e => nomatch e) ?_
       obtain rfl := oi h882
       refine PJ.loopOut (fun e => nomatch e) (fun he885 => ?_)
       have h883 := congrArg some he885
       refine PJ.blockRet ?_
       obtain rfl := oi h883
       have h884 := joinX_inr h445
       refine PJ.cutXr (fun e => nomatch e) ?_
       obtain rfl := oi h884
       exact kZ hFn hFH hFD
      ·refine kF ?_
       refine kK ?_
       obtain rfl := oi h880
       exact kXl [2, 3, 5, 6, 7, 8]
    ·subst hs
     have h854 := joinX_inl h853
     refine kR ?_
     refine kC 3 [2,3,6,7,8] ?_
     refine kE ?_
     refine PJ.blockNormal ?_
     obtain rfl := oi h854
     refine kW (L2 := [(2, .bool false), (3, .int .i64 ((nth x0 s447.2).Cat_)), (6, lsv encSt46 2 x0), (7, .int .i64 (x0.length : Int)), (8, .int .i64 s447.2)]) (H2 := []) hFH hFD [] ?_
     exact kXl [2, 3, 6, 7, 8]
   ·subst hs
    have h817 := joinX_inl h816
    refine kR ?_
    refine kC 2 [2,3,6,7,8] ?_
    refine kE ?_
    obtain rfl := oi h817
    exact kLN [2, 3, 6, 7, 8]
  ·refine kF ?_
   refine K.exit 0 (by kernel_rfl) ?_
   refine PJ.passExit ?_
   obtain rfl := oi h744
   refine PJ.loopOut (fun e => nomatch e) (fun he887 => ?_)
   have h886 := congrArg some he887
   refine PJ.blockOut ?_
   obtain rfl := oi h886
   exact kXl [2]
 ·subst hs
  have h446 := joinX_inl h445
  refine kSR ?_
  refine kC 1 [2] ?_
  refine kEN ?_
  refine kX ?_
  obtain rfl := oi h446
  exact kZ hFn hFH hFD
def exerguelaw12_shown  : Option (Bool) :=
 (Option.bind (plur_Read (([(⟨2, ([110, 32, 61, 32, 49] : List UInt8)⟩ : St49)] : List St49))) fun y1 => (Option.bind (bif (decide (y1.2.2 = 0)) then (bif (decide ((y1.1.length : Int) = 1)) then (Option.bind (plur_Of y1.1 (⟨([1] : List Int), ([] : List Int), 0, 0⟩ : St33)) fun y42 => (bif (decide (y42 = 2)) then (Option.bind (plur_Of y1.1 (⟨([2] : List Int), ([] : List Int), 0, 0⟩ : St33)) fun y48 => (bif (decide (y48 = 0)) then (Option.bind (plur_Name 2) fun y54 => (bif (y54 == ([111, 110, 101] : List UInt8)) then (Option.bind (plur_Right y1.1) fun y60 => (some y60)) else (some false))) else (some false))) else (some false))) else (some false)) else (some false)) fun (s31 : Bool) => (some s31)))
theorem exerguelaw12_shown_ok  {r : Bool} (h : exerguelaw12_shown = some r) : SC Tryz.prog 7 [] [] (.bool r) [] := by
 refine kFn (fn := Tryz.f7) (fun F hFn hFH hFD => ?_)
 unfold exerguelaw12_shown at h
 refine kSR ?_
 refine kC 1 [0] ?_
 refine kEN ?_
 refine kSR ?_
 refine kC 2 [0,6] ?_
 obtain ⟨y1, hy2, h3⟩ := bindS h
 refine RJ.wk (Wk.freeze 0 (n := (([(⟨2, ([110, 32, 61, 32, 49] : List UInt8)⟩ : St49)] : List St49)).length) (k := 2) (e := 50) (cs := (([(⟨2, ([110, 32, 61, 32, 49] : List UInt8)⟩ : St49)] : List St49)).flatMap encSt49) (by kernel_rfl)) ?_
 refine kA 7 (plur_Read_ok hy2) ?_
 refine kC 7 [0,1,3] ?_
 refine kEN ?_
 obtain ⟨s31, hy33, h35⟩ := bindS h3
 refine K.cutN (by kernel_rfl) (fun (s31 : Bool) => ([(0, .bool s31)], [])) s31 ?_ ?_
 ·refine kR ?_
  refine kC 3 [0,1,13] ?_
  refine kB 13 hy33 (fun h37 => ?_) (fun h38 => ?_)
  ·refine kC 5 [0,1,18] ?_
   refine kB 18 h37 (fun h40 => ?_) (fun h41 => ?_)
   ·refine kC 3 [0,1,18,19,21] ?_
    obtain ⟨y42, hy43, h44⟩ := bindS h40
    refine RJ.callL (d := (some 22)) (f := 21) (args := [lsv encSt46 2 y1.1, .agg [.vc 1, .nl, .int .i64 0, .int .i64 0]]) (args0 := [lsv encSt46 2 y1.1, .agg [.vc 0, .nl, .int .i64 0, .int .i64 0]]) (args1 := [lsv encSt46 2 y1.1, .agg [lsv (encI .u8) 1 ([1] : List Int), .nl, .int .i64 0, .int .i64 0]]) (H0 := [vecL (encI .u8) 1 5 ([1] : List Int)]) (v := .int .i64 y42) (tr2 := []) [1] (by kernel_rfl) (by kernel_rfl) (by kernel_rfl) (by kernel_rfl) (by decide) (by kernel_rfl) (by kernel_rfl) (by kernel_rfl) (by kernel_rfl) (.cons (Le.refl _) (.cons (Le.agg (.cons (Le.refl _) (.cons (Le.nl _) (.cons (Le.refl _) (.cons (Le.refl _) .nil))))) .nil)) (plur_Of_ok hy43) (by kernel_rfl) (by kernel_rfl) ?_
    refine kC 3 [0,1,25] ?_
    refine kB 25 h44 (fun h46 => ?_) (fun h47 => ?_)
    ·refine kC 3 [0,1,25,26,28] ?_
     obtain ⟨y48, hy49, h50⟩ := bindS h46
     refine RJ.callL (d := (some 29)) (f := 21) (args := [lsv encSt46 2 y1.1, .agg [.vc 2, .nl, .int .i64 0, .int .i64 0]]) (args0 := [lsv encSt46 2 y1.1, .agg [.vc 0, .nl, .int .i64 0, .int .i64 0]]) (args1 := [lsv encSt46 2 y1.1, .agg [lsv (encI .u8) 1 ([2] : List Int), .nl, .int .i64 0, .int .i64 0]]) (H0 := [vecL (encI .u8) 1 5 ([2] : List Int)]) (v := .int .i64 y48) (tr2 := []) [2] (by kernel_rfl) (by kernel_rfl) (by kernel_rfl) (by kernel_rfl) (by decide) (by kernel_rfl) (by kernel_rfl) (by kernel_rfl) (by kernel_rfl) (.cons (Le.refl _) (.cons (Le.agg (.cons (Le.refl _) (.cons (Le.nl _) (.cons (Le.refl _) (.cons (Le.refl _) .nil))))) .nil)) (plur_Of_ok hy49) (by kernel_rfl) (by kernel_rfl) ?_
     refine RJ.seg 3 [0, 1, 32] (L2 := [(0, .bool false), (1, lsv encSt46 2 y1.1), (32, .bool (decide (y48 = 0)))]) (H2 := [.gone, vecL (encI .u8) 1 5 ([1] : List Int), vecL (encI .u8) 1 5 ([2] : List Int)]) (by kernel_rfl) ?_
     refine kB 32 h50 (fun h52 => ?_) (fun h53 => ?_)
     ·obtain ⟨y54, hy55, h56⟩ := bindS h52
      refine kA 33 (plur_Name_ok hy55) ?_
      refine kC 3 [0,1,36] ?_
      refine kB 36 h56 (fun h58 => ?_) (fun h59 => ?_)
      ·refine kC 1 [0,36,37] ?_
       obtain ⟨y60, hy61, h62⟩ := bindS h58
       refine kA 38 (plur_Right_ok hy61) ?_
       refine kC 2 [0] ?_
       refine kE ?_
       obtain rfl := oi h62
       refine kW (L2 := [(0, .bool y60)]) (H2 := []) hFH hFD [] ?_
       exact kN [0]
      ·refine kC 4 [0] ?_
       refine kE ?_
       obtain rfl := oi h59
       refine kW (L2 := [(0, .bool false)]) (H2 := []) hFH hFD [] ?_
       exact kN [0]
     ·refine kC 8 [0] ?_
      refine kE ?_
      obtain rfl := oi h53
      refine kW (L2 := [(0, .bool false)]) (H2 := []) hFH hFD [] ?_
      exact kN [0]
    ·refine kC 15 [0] ?_
     refine kE ?_
     obtain rfl := oi h47
     refine kW (L2 := [(0, .bool false)]) (H2 := []) hFH hFD [] ?_
     exact kN [0]
   ·refine kC 22 [0] ?_
    refine kE ?_
    obtain rfl := oi h41
    refine kW (L2 := [(0, .bool false)]) (H2 := []) hFH hFD [] ?_
    exact kN [0]
  ·refine kC 27 [0] ?_
   refine kE ?_
   obtain rfl := oi h38
   refine kW (L2 := [(0, .bool false)]) (H2 := []) hFH hFD [] ?_
   exact kN [0]
 ·refine kX ?_
  obtain rfl := oi h35
  exact kZ hFn hFH hFD
def exergueref11_Short (x0 : List (List St75)) : Option (Bool) :=
 (Option.bind (loopN (fun (s41367 : Int × Int) => (bif (decide (s41367.2 < (x0.length : Int))) then (Option.bind (Option.bind (loopN (fun (s79281 : Int × Int) => (bif inR s41367.2 x0.length then (bif (decide (s79281.2 < ((nth x0 s41367.2).length : Int))) then (Option.bind (bif inR s41367.2 x0.length then (bif inR s79281.2 (nth x0 s41367.2).length then (Option.bind (loopN (fun (s82424 : Int) => (bif inR s41367.2 x0.length then (bif inR s79281.2 (nth x0 s41367.2).length then (bif (decide (s82424 < ((((nth (nth x0 s41367.2) s79281.2).R_).length : Int)))) then (Option.bind (Option.bind (bif inR s41367.2 x0.length then (bif inR s79281.2 (nth x0 s41367.2).length then (bif inR s82424 ((nth (nth x0 s41367.2) s79281.2).R_).length then (bif (decide (((nth ((nth (nth x0 s41367.2) s79281.2).R_) s82424).a0_) < (-1000000000000))) then (some true) else (bif inR s41367.2 x0.length then (bif inR s79281.2 (nth x0 s41367.2).length then (bif inR s82424 ((nth (nth x0 s41367.2) s79281.2).R_).length then (some ((decide (((nth ((nth (nth x0 s41367.2) s79281.2).R_) s82424).a1_) < (-1000000000000))))) else none) else none) else none)) else none) else none) else none) fun (s82660 : Bool) => (bif s82660 then (some (.inr (.inr (.inr (.inr (.inr (.inr (.inr (.inr (.inr false)))))))))) else (some (.inl ())))) (joinX fun (s82646 : Unit) => (some (.inl (IntKind.wrap .i64 (s82424 + 1)))))) else (some (.inr (.inl ())))) else none) else none)) big 0) (joinX fun (s82419 : Unit) => (Option.bind (bif inR s41367.2 x0.length then (bif inR s79281.2 (nth x0 s41367.2).length then (bif (decide (((nth (nth x0 s41367.2) s79281.2).Mod_) < (-1000000000000))) then (some true) else (some ((decide (((IntKind.wrap .i64 ((IntKind.wrap .i64 (s79281.1 + 1)) + ((((nth (nth x0 s41367.2) s79281.2).R_).length : Int))))) > 200))))) else none) else none) fun (s82696 : Bool) => (bif s82696 then (some (.inr (.inr (.inr (.inr (.inr (.inr false))))))) else (some (.inl ())))))) else none) else none) (joinX fun (s82145 : Unit) => (some (.inl ((IntKind.wrap .i64 ((IntKind.wrap .i64 (s79281.1 + 1)) + ((((nth (nth x0 s41367.2) s79281.2).R_).length : Int)))), (IntKind.wrap .i64 (s79281.2 + 1))))))) else (some (.inr (.inl s79281.1)))) else none)) big ((IntKind.wrap .i64 (s41367.1 + 1)), 0)) (joinX fun (s79276 : Int) => (bif (decide (s79276 > 200)) then (some (.inr (.inr (.inr false)))) else (some (.inl s79276))))) (joinX fun (s75833 : Int) => (some (.inl (s75833, (IntKind.wrap .i64 (s41367.2 + 1))))))) else (some (.inr (.inl ()))))) big (0, 0)) (joinX fun (s41362 : Unit) => (some true)))
theorem exergueref11_Short_ok {x0 : List (List St75)} {r : Bool} (h : exergueref11_Short x0 = some r) : SC Tryz.prog 32 [lsv (encL encSt75 4) 1 x0] [] (.bool r) [] := by
 refine kFn (fn := Tryz.f32) (fun F hFn hFH hFD => ?_)
 unfold exergueref11_Short at h
 refine kSR ?_
 refine kC 1 [0,2] ?_
 refine kEN ?_
 refine kSR ?_
 refine kC 1 [0,2,3] ?_
 refine kEN ?_
 obtain ⟨y41363, hy41364, h41365⟩ := bindS h
 refine K.cutX (by kernel_rfl) (fun (s41362 : Unit) => ([(2, .bool false)], [])) y41363 ?_ (fun s41362 hs => ?_)
 ·refine kSR ?_
  refine kC 1 [0,2,3,4] ?_
  refine kEN ?_
  refine kb 0 ?_
  refine kl (fun (s41367 : Int × Int) => ([(0, lsv (encL encSt75 4) 1 x0), (2, .bool false), (3, .int .i64 s41367.1), (4, .int .i64 s41367.2)], [])) hy41364 [0, 2, 3, 4] (fun s41367 x68941 hs68940 => ?_)
  refine kS ?_
  refine kSR ?_
  refine kC 4 [0,2,3,4,10] ?_
  refine kEN ?_
  refine kBJ 10 hs68940 (fun h68943 => ?_) (fun h68944 => ?_)
  ·refine kT ?_
   refine kK ?_
   refine PJ.next ?_
   obtain ⟨y75834, hy75835, h75836⟩ := bindS h68943
   refine K.cutX (by kernel_rfl) (fun (s75833 : Int) => ([(0, lsv (encL encSt75 4) 1 x0), (2, .bool false), (3, .int .i64 s75833), (4, .int .i64 s41367.2)], [])) y75834 ?_ (fun s75833 hs => ?_)
   ·refine kb 1 ?_
    refine kSR ?_
    refine kC 3 [0,2,3,4] ?_
    refine kEN ?_
    obtain ⟨y79277, hy79278, h79279⟩ := bindS hy75835
    refine K.cutX (by kernel_rfl) (fun (s79276 : Int) => ([(0, lsv (encL encSt75 4) 1 x0), (2, .bool false), (3, .int .i64 s79276), (4, .int .i64 s41367.2)], [])) y79277 ?_ (fun s79276 hs => ?_)
    ·refine kSR ?_
     refine kC 1 [0,2,3,4,5] ?_
     refine kEN ?_
     refine kb 2 ?_
     refine kl (fun (s79281 : Int × Int) => ([(0, lsv (encL encSt75 4) 1 x0), (2, .bool false), (3, .int .i64 s79281.1), (4, .int .i64 s41367.2), (5, .int .i64 s79281.2)], [])) hy79278 [0, 2, 3, 4, 5] (fun s79281 x81573 hs81572 => ?_)
     refine kS ?_
     refine kSR ?_
     refine kC 3 [0,2,3,4,5,15,16,17] ?_
     obtain ⟨hm, h81574⟩ := asrt hs81572
     refine kI 18 (encL_len encSt75 4) hm ?_
     refine kC 3 [0,2,3,4,5,21] ?_
     refine kEN ?_
     refine kBJ 21 h81574 (fun h81576 => ?_) (fun h81577 => ?_)
     ·refine kT ?_
      refine kK ?_
      refine PJ.next ?_
      obtain ⟨y82146, hy82147, h82148⟩ := bindS h81576
      refine K.cutX (by kernel_rfl) (fun (s82145 : Unit) => ([(0, lsv (encL encSt75 4) 1 x0), (2, .bool false), (3, .int .i64 ((IntKind.wrap .i64 ((IntKind.wrap .i64 (s79281.1 + 1)) + ((((nth (nth x0 s41367.2) s79281.2).R_).length : Int)))))), (4, .int .i64 s41367.2), (5, .int .i64 s79281.2)], [])) y82146 ?_ (fun s82145 hs => ?_)
      ·refine kb 3 ?_
       refine kSR ?_
       refine kC 4 [0,2,3,4,5,25,26,27] ?_
       obtain ⟨hm, h82150⟩ := asrt hy82147
       refine kI 28 (encL_len encSt75 4) hm ?_
       refine kC 2 [0,2,3,4,5,25,29,30] ?_
       obtain ⟨hm, h82151⟩ := asrt h82150
       refine kI 31 encSt75_len hm ?_
       refine kC 5 [0,2,3,4,5] ?_
       refine kEN ?_
       obtain ⟨y82420, hy82421, h82422⟩ := bindS h82151
       refine K.cutX (by kernel_rfl) (fun (s82419 : Unit) => ([(0, lsv (encL encSt75 4) 1 x0), (2, .bool false), (3, .int .i64 ((IntKind.wrap .i64 ((IntKind.wrap .i64 (s79281.1 + 1)) + ((((nth (nth x0 s41367.2) s79281.2).R_).length : Int)))))), (4, .int .i64 s41367.2), (5, .int .i64 s79281.2)], [])) y82420 ?_ (fun s82419 hs => ?_)
       ·refine kSR ?_
        refine kC 1 [0,2,3,4,5,6] ?_
        refine kEN ?_
        refine kb 4 ?_
        refine kl (fun (s82424 : Int) => ([(0, lsv (encL encSt75 4) 1 x0), (2, .bool false), (3, .int .i64 ((IntKind.wrap .i64 ((IntKind.wrap .i64 (s79281.1 + 1)) + ((((nth (nth x0 s41367.2) s79281.2).R_).length : Int)))))), (4, .int .i64 s41367.2), (5, .int .i64 s79281.2), (6, .int .i64 s82424)], [])) hy82421 [0, 2, 3, 4, 5, 6] (fun s82424 x82602 hs82601 => ?_)
        refine kS ?_
        refine kSR ?_
        refine kC 3 [0,2,3,4,5,6,36,37,38] ?_
        obtain ⟨hm, h82603⟩ := asrt hs82601
        refine kI 39 (encL_len encSt75 4) hm ?_
        refine kC 2 [0,2,3,4,5,6,36,40,41] ?_
        obtain ⟨hm, h82604⟩ := asrt h82603
        refine kI 42 encSt75_len hm ?_
        refine kC 4 [0,2,3,4,5,6,46] ?_
        refine kEN ?_
        refine kBJ 46 h82604 (fun h82606 => ?_) (fun h82607 => ?_)
        ·refine kT ?_
         refine kK ?_
         refine PJ.next ?_
         obtain ⟨y82647, hy82648, h82649⟩ := bindS h82606
         refine K.cutX (by kernel_rfl) (fun (s82646 : Unit) => ([(0, lsv (encL encSt75 4) 1 x0), (2, .bool false), (3, .int .i64 ((IntKind.wrap .i64 ((IntKind.wrap .i64 (s79281.1 + 1)) + ((((nth (nth x0 s41367.2) s79281.2).R_).length : Int)))))), (4, .int .i64 s41367.2), (5, .int .i64 s79281.2), (6, .int .i64 s82424)], [])) y82647 ?_ (fun s82646 hs => ?_)
         ·refine kb 5 ?_
          obtain ⟨s82660, hy82662, h82664⟩ := bindS hy82648
          refine K.cutN (by kernel_rfl) (fun (s82660 : Bool) => ([(0, lsv (encL encSt75 4) 1 x0), (2, .bool false), (3, .int .i64 ((IntKind.wrap .i64 ((IntKind.wrap .i64 (s79281.1 + 1)) + ((((nth (nth x0 s41367.2) s79281.2).R_).length : Int)))))), (4, .int .i64 s41367.2), (5, .int .i64 s79281.2), (6, .int .i64 s82424), (76, .bool s82660)], [])) s82660 ?_ ?_
          ·refine kR ?_
           refine kC 2 [0,2,3,4,5,6,49,50] ?_
           obtain ⟨hm, h82665⟩ := asrt hy82662
           refine kI 51 (encL_len encSt75 4) hm ?_
           refine kC 2 [0,2,3,4,5,6,52,53] ?_
           obtain ⟨hm, h82666⟩ := asrt h82665
           refine kI 54 encSt75_len hm ?_
           refine kC 3 [0,2,3,4,5,6,56,57] ?_
           obtain ⟨hm, h82667⟩ := asrt h82666
           refine kI 58 encSt80_len hm ?_
           refine kC 4 [0,2,3,4,5,6,62] ?_
           refine kB 62 h82667 (fun h82669 => ?_) (fun h82670 => ?_)
           ·refine kC 14 [0,2,3,4,5,6,76] ?_
            refine kE ?_
            obtain rfl := oi h82669
            exact kN [0, 2, 3, 4, 5, 6, 76]
           ·refine kC 2 [0,2,3,4,5,6,62,63,64] ?_
            obtain ⟨hm, h82671⟩ := asrt h82670
            refine kI 65 (encL_len encSt75 4) hm ?_
            refine RJ.seg 2 [0, 2, 3, 4, 5, 6, 62, 66, 67] (L2 := [(0, lsv (encL encSt75 4) 1 x0), (2, .bool false), (3, .int .i64 ((IntKind.wrap .i64 ((IntKind.wrap .i64 (s79281.1 + 1)) + ((((nth (nth x0 s41367.2) s79281.2).R_).length : Int)))))), (4, .int .i64 s41367.2), (5, .int .i64 s79281.2), (6, .int .i64 s82424), (62, .bool false), (66, lsv encSt75 4 (nth x0 s41367.2)), (67, .int .i64 s79281.2)]) (H2 := []) (by kernel_rfl) ?_
            obtain ⟨hm, h82672⟩ := asrt h82671
            refine kI 68 encSt75_len hm ?_
            refine kC 3 [0,2,3,4,5,6,62,70,71] ?_
            obtain ⟨hm, h82673⟩ := asrt h82672
            refine kI 72 encSt80_len hm ?_
            refine kC 4 [0,2,3,4,5,6,76] ?_
            refine kE ?_
            obtain rfl := oi h82673
            exact kN [0, 2, 3, 4, 5, 6, 76]
          ·refine kBJ 76 h82664 (fun h82675 => ?_) (fun h82676 => ?_)
           ·refine kT ?_
            refine kSR ?_
            refine kC 1 [0,2,3,4,5,6] ?_
            refine kEN ?_
            refine kX ?_
            refine PJ.blockRet ?_
            obtain rfl := oi h82675
            have h82677 := joinX_inr h82649
            refine PJ.cutXr (fun e => nomatch e) ?_
            obtain rfl := oi h82677
            refine PJ.loopOut (fun e => nomatch e) (fun he82688 => ?_)
            have h82678 := congrArg some he82688
            refine PJ.blockRet ?_
            obtain rfl := oi h82678
            have h82679 := joinX_inr h82422
            refine PJ.cutXr (fun e => nomatch e) ?_
            refine PJ.blockRet ?_
            obtain rfl := oi h82679
            have h82680 := joinX_inr h82148
            refine PJ.cutXr (fun e => nomatch e) ?_
            obtain rfl := oi h82680
            refine PJ.loopOut (fun e => nomatch e) (fun he82687 => ?_)
            have h82681 := congrArg some he82687
            refine PJ.blockRet ?_
            obtain rfl := oi h82681
            have h82682 := joinX_inr h79279
            refine PJ.cutXr (fun e => nomatch e) ?_
            refine PJ.blockRet ?_
            obtain rfl := oi h82682
            have h82683 := joinX_inr h75836
            refine PJ.cutXr (fun e => nomatch e) ?_
            obtain rfl := oi h82683
            refine PJ.loopOut (fun e => nomatch e) (fun he82686 => ?_)
            have h82684 := congrArg some he82686
            refine PJ.blockRet ?_
            obtain rfl := oi h82684
            have h82685 := joinX_inr h41365
            refine PJ.cutXr (fun e => nomatch e) ?_
            obtain rfl := oi h82685
            exact kZ hFn hFH hFD
           ·refine kF ?_
            refine kK ?_
            refine PJ.blockNormal ?_
            obtain rfl := oi h82676
            exact kXl [0, 2, 3, 4, 5, 6]
         ·subst hs
          have h82650 := joinX_inl h82649
          refine kR ?_
          refine kC 3 [0,2,3,4,5,6] ?_
          refine kE ?_
          obtain rfl := oi h82650
          exact kLN [0, 2, 3, 4, 5, 6]
        ·refine kF ?_
         refine K.exit 4 (by kernel_rfl) ?_
         refine PJ.passExit ?_
         obtain rfl := oi h82607
         refine PJ.loopOut (fun e => nomatch e) (fun he82690 => ?_)
         have h82689 := congrArg some he82690
         refine PJ.blockOut ?_
         obtain rfl := oi h82689
         exact kXl [0, 2, 3, 4, 5]
       ·subst hs
        have h82423 := joinX_inl h82422
        obtain ⟨s82696, hy82698, h82700⟩ := bindS h82423
        refine K.cutN (by kernel_rfl) (fun (s82696 : Bool) => ([(0, lsv (encL encSt75 4) 1 x0), (2, .bool false), (3, .int .i64 ((IntKind.wrap .i64 ((IntKind.wrap .i64 (s79281.1 + 1)) + ((((nth (nth x0 s41367.2) s79281.2).R_).length : Int)))))), (4, .int .i64 s41367.2), (5, .int .i64 s79281.2), (89, .bool s82696)], [])) s82696 ?_ ?_
        ·refine kR ?_
         refine kC 2 [0,2,3,4,5,77,78] ?_
         obtain ⟨hm, h82701⟩ := asrt hy82698
         refine kI 79 (encL_len encSt75 4) hm ?_
         refine kC 2 [0,2,3,4,5,80,81] ?_
         obtain ⟨hm, h82702⟩ := asrt h82701
         refine kI 82 encSt75_len hm ?_
         refine kC 4 [0,2,3,4,5,86] ?_
         refine kB 86 h82702 (fun h82704 => ?_) (fun h82705 => ?_)
         ·refine kC 3 [0,2,3,4,5,89] ?_
          refine kE ?_
          obtain rfl := oi h82704
          exact kN [0, 2, 3, 4, 5, 89]
         ·refine kC 3 [0,2,3,4,5,89] ?_
          refine kE ?_
          obtain rfl := oi h82705
          exact kN [0, 2, 3, 4, 5, 89]
        ·refine kBJ 89 h82700 (fun h82707 => ?_) (fun h82708 => ?_)
         ·refine kT ?_
          refine kSR ?_
          refine kC 1 [0,2,3,4,5] ?_
          refine kEN ?_
          refine kX ?_
          refine PJ.blockRet ?_
          obtain rfl := oi h82707
          have h82709 := joinX_inr h82148
          refine PJ.cutXr (fun e => nomatch e) ?_
          obtain rfl := oi h82709
          refine PJ.loopOut (fun e => nomatch e) (fun he82716 => ?_)
          have h82710 := congrArg some he82716
          refine PJ.blockRet ?_
          obtain rfl := oi h82710
          have h82711 := joinX_inr h79279
          refine PJ.cutXr (fun e => nomatch e) ?_
          refine PJ.blockRet ?_
          obtain rfl := oi h82711
          have h82712 := joinX_inr h75836
          refine PJ.cutXr (fun e => nomatch e) ?_
          obtain rfl := oi h82712
          refine PJ.loopOut (fun e => nomatch e) (fun he82715 => ?_)
          have h82713 := congrArg some he82715
          refine PJ.blockRet ?_
          obtain rfl := oi h82713
          have h82714 := joinX_inr h41365
          refine PJ.cutXr (fun e => nomatch e) ?_
          obtain rfl := oi h82714
          exact kZ hFn hFH hFD
         ·refine kF ?_
          refine kK ?_
          refine PJ.blockNormal ?_
          obtain rfl := oi h82708
          exact kXl [0, 2, 3, 4, 5]
      ·subst hs
       have h82149 := joinX_inl h82148
       refine kR ?_
       refine kC 3 [0,2,3,4,5] ?_
       refine kE ?_
       obtain rfl := oi h82149
       exact kLN [0, 2, 3, 4, 5]
     ·refine kF ?_
      refine K.exit 2 (by kernel_rfl) ?_
      refine PJ.passExit ?_
      obtain rfl := oi h81577
      refine PJ.loopOut (fun e => nomatch e) (fun he82718 => ?_)
      have h82717 := congrArg some he82718
      refine PJ.blockOut ?_
      obtain rfl := oi h82717
      exact kXl [0, 2, 3, 4]
    ·subst hs
     have h79280 := joinX_inl h79279
     refine kSR ?_
     refine kC 2 [0,2,3,4,91] ?_
     refine kEN ?_
     refine kBJ 91 h79280 (fun h82720 => ?_) (fun h82721 => ?_)
     ·refine kT ?_
      refine kSR ?_
      refine kC 1 [0,2,3,4] ?_
      refine kEN ?_
      refine kX ?_
      refine PJ.blockRet ?_
      obtain rfl := oi h82720
      have h82722 := joinX_inr h75836
      refine PJ.cutXr (fun e => nomatch e) ?_
      obtain rfl := oi h82722
      refine PJ.loopOut (fun e => nomatch e) (fun he82725 => ?_)
      have h82723 := congrArg some he82725
      refine PJ.blockRet ?_
      obtain rfl := oi h82723
      have h82724 := joinX_inr h41365
      refine PJ.cutXr (fun e => nomatch e) ?_
      obtain rfl := oi h82724
      exact kZ hFn hFH hFD
     ·refine kF ?_
      refine kK ?_
      refine PJ.blockNormal ?_
      obtain rfl := oi h82721
      exact kXl [0, 2, 3, 4]
   ·subst hs
    have h75837 := joinX_inl h75836
    refine kR ?_
    refine kC 3 [0,2,3,4] ?_
    refine kE ?_
    obtain rfl := oi h75837
    exact kLN [0, 2, 3, 4]
  ·refine kF ?_
   refine K.exit 0 (by kernel_rfl) ?_
   refine PJ.passExit ?_
   obtain rfl := oi h68944
   refine PJ.loopOut (fun e => nomatch e) (fun he82727 => ?_)
   have h82726 := congrArg some he82727
   refine PJ.blockOut ?_
   obtain rfl := oi h82726
   exact kXl [2]
 ·subst hs
  have h41366 := joinX_inl h41365
  refine kSR ?_
  refine kC 1 [2] ?_
  refine kEN ?_
  refine kX ?_
  obtain rfl := oi h41366
  exact kZ hFn hFH hFD
def exergueref12_Short (x0 : List St46) : Option (Bool) :=
 (Option.bind (loopN (fun (s171 : Int) => (bif (decide (s171 < (x0.length : Int))) then (Option.bind (bif inR s171 x0.length then (Option.bind (exergueref11_Short ((nth x0 s171).C_)) fun y313 => (Option.bind (bif (decide (s171 ≥ 8)) then (some true) else (some (!y313))) fun (s319 : Bool) => (bif s319 then (some (.inr (.inr (.inr false)))) else (some (.inl ()))))) else none) (joinX fun (s307 : Unit) => (some (.inl (IntKind.wrap .i64 (s171 + 1)))))) else (some (.inr (.inl ()))))) big 0) (joinX fun (s166 : Unit) => (some true)))
theorem exergueref12_Short_ok {x0 : List St46} {r : Bool} (h : exergueref12_Short x0 = some r) : SC Tryz.prog 13 [lsv encSt46 2 x0] [] (.bool r) [] := by
 refine kFn (fn := Tryz.f13) (fun F hFn hFH hFD => ?_)
 unfold exergueref12_Short at h
 refine kSR ?_
 refine kC 1 [0,2] ?_
 refine kEN ?_
 obtain ⟨y167, hy168, h169⟩ := bindS h
 refine K.cutX (by kernel_rfl) (fun (s166 : Unit) => ([(2, .bool false)], [])) y167 ?_ (fun s166 hs => ?_)
 ·refine kSR ?_
  refine kC 1 [0,2,3] ?_
  refine kEN ?_
  refine kb 0 ?_
  refine kl (fun (s171 : Int) => ([(0, lsv encSt46 2 x0), (2, .bool false), (3, .int .i64 s171)], [])) hy168 [0, 2, 3] (fun s171 x281 hs280 => ?_)
  refine kS ?_
  refine kSR ?_
  refine kC 4 [0,2,3,8] ?_
  refine kEN ?_
  refine kBJ 8 hs280 (fun h283 => ?_) (fun h284 => ?_)
  ·refine kT ?_
   refine kK ?_
   refine PJ.next ?_
   obtain ⟨y308, hy309, h310⟩ := bindS h283
   refine K.cutX (by kernel_rfl) (fun (s307 : Unit) => ([(0, lsv encSt46 2 x0), (2, .bool false), (3, .int .i64 s171)], [])) y308 ?_ (fun s307 hs => ?_)
   ·refine kb 1 ?_
    refine kSR ?_
    refine kC 2 [0,2,3,11,12] ?_
    obtain ⟨hm, h312⟩ := asrt hy309
    refine kI 13 encSt46_len hm ?_
    refine kC 2 [0,2,3,15] ?_
    obtain ⟨y313, hy314, h315⟩ := bindS h312
    refine kA 16 (exergueref11_Short_ok hy314) ?_
    refine kC 1 [0,2,3,4] ?_
    refine kEN ?_
    obtain ⟨s319, hy321, h323⟩ := bindS h315
    refine K.cutN (by kernel_rfl) (fun (s319 : Bool) => ([(0, lsv encSt46 2 x0), (2, .bool false), (3, .int .i64 s171), (22, .bool s319)], [])) s319 ?_ ?_
    ·refine kR ?_
     refine kC 3 [0,2,3,4,19] ?_
     refine kB 19 hy321 (fun h325 => ?_) (fun h326 => ?_)
     ·refine kC 3 [0,2,3,22] ?_
      refine kE ?_
      obtain rfl := oi h325
      exact kN [0, 2, 3, 22]
     ·refine kC 3 [0,2,3,22] ?_
      refine kE ?_
      obtain rfl := oi h326
      exact kN [0, 2, 3, 22]
    ·refine kBJ 22 h323 (fun h328 => ?_) (fun h329 => ?_)
     ·refine kT ?_
      refine kSR ?_
      refine kC 1 [0,2,3] ?_
      refine kEN ?_
      refine kX ?_
      refine PJ.blockRet ?_
      obtain rfl := oi h328
      have h330 := joinX_inr h310
      refine PJ.cutXr (fun e => nomatch e) ?_
      obtain rfl := oi h330
      refine PJ.loopOut (fun e => nomatch e) (fun he333 => ?_)
      have h331 := congrArg some he333
      refine PJ.blockRet ?_
      obtain rfl := oi h331
      have h332 := joinX_inr h169
      refine PJ.cutXr (fun e => nomatch e) ?_
      obtain rfl := oi h332
      exact kZ hFn hFH hFD
     ·refine kF ?_
      refine kK ?_
      refine PJ.blockNormal ?_
      obtain rfl := oi h329
      exact kXl [0, 2, 3]
   ·subst hs
    have h311 := joinX_inl h310
    refine kR ?_
    refine kC 3 [0,2,3] ?_
    refine kE ?_
    obtain rfl := oi h311
    exact kLN [0, 2, 3]
  ·refine kF ?_
   refine K.exit 0 (by kernel_rfl) ?_
   refine PJ.passExit ?_
   obtain rfl := oi h284
   refine PJ.loopOut (fun e => nomatch e) (fun he335 => ?_)
   have h334 := congrArg some he335
   refine PJ.blockOut ?_
   obtain rfl := oi h334
   exact kXl [2]
 ·subst hs
  have h170 := joinX_inl h169
  refine kSR ?_
  refine kC 1 [2] ?_
  refine kEN ?_
  refine kX ?_
  obtain rfl := oi h170
  exact kZ hFn hFH hFD
def plur_Cat (x0 : List UInt8) : Option (Int × Bool) :=
 (Option.bind (Option.bind plur_names fun y141 => (loopN (fun (s144 : Int) => (bif (decide (s144 < 6)) then (bif (decide (s144 = 0)) then (bif (y141.a0_ == x0) then (some (.inr (.inr (s144, true)))) else (some (.inl (IntKind.wrap .i64 (0 + 1))))) else (bif (decide (s144 = 1)) then (bif (y141.a1_ == x0) then (some (.inr (.inr (s144, true)))) else (some (.inl (IntKind.wrap .i64 (1 + 1))))) else (bif (decide (s144 = 2)) then (bif (y141.a2_ == x0) then (some (.inr (.inr (s144, true)))) else (some (.inl (IntKind.wrap .i64 (2 + 1))))) else (bif (decide (s144 = 3)) then (bif (y141.a3_ == x0) then (some (.inr (.inr (s144, true)))) else (some (.inl (IntKind.wrap .i64 (3 + 1))))) else (bif (decide (s144 = 4)) then (bif (y141.a4_ == x0) then (some (.inr (.inr (s144, true)))) else (some (.inl (IntKind.wrap .i64 (4 + 1))))) else (bif (decide (s144 = 5)) then (bif (y141.a5_ == x0) then (some (.inr (.inr (s144, true)))) else (some (.inl (IntKind.wrap .i64 (5 + 1))))) else none)))))) else (some (.inr (.inl ()))))) big 0)) (joinX fun (s136 : Unit) => (some (0, false))))
theorem plur_Cat_ok {x0 : List UInt8} {r : Int × Bool} (h : plur_Cat x0 = some r) : SC Tryz.prog 14 [.str x0] [] (.tup [.int .i64 r.1, .bool r.2]) [] := by
 refine kFn (fn := Tryz.f14) (fun F hFn hFH hFD => ?_)
 unfold plur_Cat at h
 refine kSR ?_
 refine kC 2 [0,2,3] ?_
 refine kEN ?_
 obtain ⟨y137, hy138, h139⟩ := bindS h
 refine K.cutX (by kernel_rfl) (fun (s136 : Unit) => ([(2, .int .i64 0), (3, .bool false)], [])) y137 ?_ (fun s136 hs => ?_)
 ·refine kSR ?_
  obtain ⟨y141, hy142, h143⟩ := bindS hy138
  refine kA 6 (plur_names_ok hy142) ?_
  refine kC 1 [0,2,3,6,7] ?_
  refine kEN ?_
  refine kb 0 ?_
  refine kl (fun (s144 : Int) => ([(0, .str x0), (2, .int .i64 0), (3, .bool false), (6, .agg (encSt60 y141)), (7, .int .i64 s144)], [])) h143 [0, 2, 3, 6, 7] (fun s144 x216 hs215 => ?_)
  refine kSR ?_
  refine kC 1 [0,2,3,6,7,8] ?_
  refine kEN ?_
  refine kS ?_
  refine kBJ 8 hs215 (fun h218 => ?_) (fun h219 => ?_)
  ·refine kT ?_
   refine kK ?_
   refine PJ.next ?_
   refine kS ?_
   refine kb 1 ?_
   refine kSR ?_
   refine kC 1 [0,2,3,6,7,9] ?_
   cases hb220 : (decide (s144 = 0))
   ·have h222 := condF hb220 h218
    cases hb229 : (decide (s144 = 1))
    ·have h231 := condF hb229 h222
     cases hb238 : (decide (s144 = 2))
     ·have h240 := condF hb238 h231
      cases hb247 : (decide (s144 = 3))
      ·have h249 := condF hb247 h240
       cases hb256 : (decide (s144 = 4))
       ·have h258 := condF hb256 h249
        cases hb265 : (decide (s144 = 5))
        ·have h267 := condF hb265 h258
         cases h267
        ·have h266 := condT hb265 h258
         refine RJ.pin 7 (kd := .i64) (by kernel_rfl) (of_decide_eq_true hb265) ?_
         refine kC 3 [0,2,3,4,5,6,7] ?_
         refine kEN ?_
         refine kSR ?_
         refine kC 3 [0,2,3,4,6,7,13] ?_
         refine kEN ?_
         refine kBJ 13 h266 (fun h269 => ?_) (fun h270 => ?_)
         ·refine kT ?_
          refine kSR ?_
          refine kC 3 [0,2,3,6,7] ?_
          refine kEN ?_
          refine kX ?_
          refine PJ.blockRet ?_
          refine PJ.passRet ?_
          obtain rfl := oi h269
          refine PJ.loopOut (fun e => nomatch e) (fun he273 => ?_)
          have h271 := congrArg some he273
          refine PJ.blockRet ?_
          obtain rfl := oi h271
          have h272 := joinX_inr h139
          refine PJ.cutXr (fun e => nomatch e) ?_
          obtain rfl := oi h272
          exact kZ hFn hFH hFD
         ·refine kF ?_
          refine kK ?_
          refine PJ.blockNormal ?_
          refine PJ.next ?_
          refine kR ?_
          refine kC 2 [0,2,3,6,7] ?_
          refine kE ?_
          obtain rfl := oi h270
          exact kLN [0, 2, 3, 6, 7]
       ·have h257 := condT hb256 h249
        refine RJ.pin 7 (kd := .i64) (by kernel_rfl) (of_decide_eq_true hb256) ?_
        refine kC 3 [0,2,3,4,5,6,7] ?_
        refine kEN ?_
        refine kSR ?_
        refine kC 3 [0,2,3,4,6,7,13] ?_
        refine kEN ?_
        refine kBJ 13 h257 (fun h260 => ?_) (fun h261 => ?_)
        ·refine kT ?_
         refine kSR ?_
         refine kC 3 [0,2,3,6,7] ?_
         refine kEN ?_
         refine kX ?_
         refine PJ.blockRet ?_
         refine PJ.passRet ?_
         obtain rfl := oi h260
         refine PJ.loopOut (fun e => nomatch e) (fun he264 => ?_)
         have h262 := congrArg some he264
         refine PJ.blockRet ?_
         obtain rfl := oi h262
         have h263 := joinX_inr h139
         refine PJ.cutXr (fun e => nomatch e) ?_
         obtain rfl := oi h263
         exact kZ hFn hFH hFD
        ·refine kF ?_
         refine kK ?_
         refine PJ.blockNormal ?_
         refine PJ.next ?_
         refine kR ?_
         refine kC 2 [0,2,3,6,7] ?_
         refine kE ?_
         obtain rfl := oi h261
         exact kLN [0, 2, 3, 6, 7]
      ·have h248 := condT hb247 h240
       refine RJ.pin 7 (kd := .i64) (by kernel_rfl) (of_decide_eq_true hb247) ?_
       refine kC 3 [0,2,3,4,5,6,7] ?_
       refine kEN ?_
       refine kSR ?_
       refine kC 3 [0,2,3,4,6,7,13] ?_
       refine kEN ?_
       refine kBJ 13 h248 (fun h251 => ?_) (fun h252 => ?_)
       ·refine kT ?_
        refine kSR ?_
        refine kC 3 [0,2,3,6,7] ?_
        refine kEN ?_
        refine kX ?_
        refine PJ.blockRet ?_
        refine PJ.passRet ?_
        obtain rfl := oi h251
        refine PJ.loopOut (fun e => nomatch e) (fun he255 => ?_)
        have h253 := congrArg some he255
        refine PJ.blockRet ?_
        obtain rfl := oi h253
        have h254 := joinX_inr h139
        refine PJ.cutXr (fun e => nomatch e) ?_
        obtain rfl := oi h254
        exact kZ hFn hFH hFD
       ·refine kF ?_
        refine kK ?_
        refine PJ.blockNormal ?_
        refine PJ.next ?_
        refine kR ?_
        refine kC 2 [0,2,3,6,7] ?_
        refine kE ?_
        obtain rfl := oi h252
        exact kLN [0, 2, 3, 6, 7]
     ·have h239 := condT hb238 h231
      refine RJ.pin 7 (kd := .i64) (by kernel_rfl) (of_decide_eq_true hb238) ?_
      refine kC 3 [0,2,3,4,5,6,7] ?_
      refine kEN ?_
      refine kSR ?_
      refine kC 3 [0,2,3,4,6,7,13] ?_
      refine kEN ?_
      refine kBJ 13 h239 (fun h242 => ?_) (fun h243 => ?_)
      ·refine kT ?_
       refine kSR ?_
       refine kC 3 [0,2,3,6,7] ?_
       refine kEN ?_
       refine kX ?_
       refine PJ.blockRet ?_
       refine PJ.passRet ?_
       obtain rfl := oi h242
       refine PJ.loopOut (fun e => nomatch e) (fun he246 => ?_)
       have h244 := congrArg some he246
       refine PJ.blockRet ?_
       obtain rfl := oi h244
       have h245 := joinX_inr h139
       refine PJ.cutXr (fun e => nomatch e) ?_
       obtain rfl := oi h245
       exact kZ hFn hFH hFD
      ·refine kF ?_
       refine kK ?_
       refine PJ.blockNormal ?_
       refine PJ.next ?_
       refine kR ?_
       refine kC 2 [0,2,3,6,7] ?_
       refine kE ?_
       obtain rfl := oi h243
       exact kLN [0, 2, 3, 6, 7]
    ·have h230 := condT hb229 h222
     refine RJ.pin 7 (kd := .i64) (by kernel_rfl) (of_decide_eq_true hb229) ?_
     refine kC 3 [0,2,3,4,5,6,7] ?_
     refine kEN ?_
     refine kSR ?_
     refine kC 3 [0,2,3,4,6,7,13] ?_
     refine kEN ?_
     refine kBJ 13 h230 (fun h233 => ?_) (fun h234 => ?_)
     ·refine kT ?_
      refine kSR ?_
      refine kC 3 [0,2,3,6,7] ?_
      refine kEN ?_
      refine kX ?_
      refine PJ.blockRet ?_
      refine PJ.passRet ?_
      obtain rfl := oi h233
      refine PJ.loopOut (fun e => nomatch e) (fun he237 => ?_)
      have h235 := congrArg some he237
      refine PJ.blockRet ?_
      obtain rfl := oi h235
      have h236 := joinX_inr h139
      refine PJ.cutXr (fun e => nomatch e) ?_
      obtain rfl := oi h236
      exact kZ hFn hFH hFD
     ·refine kF ?_
      refine kK ?_
      refine PJ.blockNormal ?_
      refine PJ.next ?_
      refine kR ?_
      refine kC 2 [0,2,3,6,7] ?_
      refine kE ?_
      obtain rfl := oi h234
      exact kLN [0, 2, 3, 6, 7]
   ·have h221 := condT hb220 h218
    refine RJ.pin 7 (kd := .i64) (by kernel_rfl) (of_decide_eq_true hb220) ?_
    refine kC 3 [0,2,3,4,5,6,7] ?_
    refine kEN ?_
    refine kSR ?_
    refine kC 3 [0,2,3,4,6,7,13] ?_
    refine kEN ?_
    refine kBJ 13 h221 (fun h224 => ?_) (fun h225 => ?_)
    ·refine kT ?_
     refine kSR ?_
     refine kC 3 [0,2,3,6,7] ?_
     refine kEN ?_
     refine kX ?_
     refine PJ.blockRet ?_
     refine PJ.passRet ?_
     obtain rfl := oi h224
     refine PJ.loopOut (fun e => nomatch e) (fun he228 => ?_)
     have h226 := congrArg some he228
     refine PJ.blockRet ?_
     obtain rfl := oi h226
     have h227 := joinX_inr h139
     refine PJ.cutXr (fun e => nomatch e) ?_
     obtain rfl := oi h227
     exact kZ hFn hFH hFD
    ·refine kF ?_
     refine kK ?_
     refine PJ.blockNormal ?_
     refine PJ.next ?_
     refine kR ?_
     refine kC 2 [0,2,3,6,7] ?_
     refine kE ?_
     obtain rfl := oi h225
     exact kLN [0, 2, 3, 6, 7]
  ·refine kF ?_
   refine K.exit 0 (by kernel_rfl) ?_
   refine PJ.passExit ?_
   obtain rfl := oi h219
   refine PJ.loopOut (fun e => nomatch e) (fun he275 => ?_)
   have h274 := congrArg some he275
   refine PJ.blockOut ?_
   obtain rfl := oi h274
   exact kXl [2, 3]
 ·subst hs
  have h140 := joinX_inl h139
  refine kSR ?_
  refine kC 2 [2,3] ?_
  refine kEN ?_
  refine kX ?_
  obtain rfl := oi h140
  exact kZ hFn hFH hFD
def exergueref12_Name (x0 : Int) : Option (List UInt8) :=
 (bif (decide (x0 = 0)) then (some ([111, 116, 104, 101, 114] : List UInt8)) else (bif (decide (x0 = 1)) then (some ([122, 101, 114, 111] : List UInt8)) else (bif (decide (x0 = 2)) then (some ([111, 110, 101] : List UInt8)) else (bif (decide (x0 = 3)) then (some ([116, 119, 111] : List UInt8)) else (bif (decide (x0 = 4)) then (some ([102, 101, 119] : List UInt8)) else (bif (decide (x0 = 5)) then (some ([109, 97, 110, 121] : List UInt8)) else (some ([] : List UInt8))))))))
theorem exergueref12_Name_ok {x0 : Int} {r : List UInt8} (h : exergueref12_Name x0 = some r) : SC Tryz.prog 19 [.int .i64 x0] [] (.str r) [] := by
 refine kFn (fn := Tryz.f19) (fun F hFn hFH hFD => ?_)
 unfold exergueref12_Name at h
 refine kSR ?_
 refine kC 1 [0,2] ?_
 refine kEN ?_
 refine kS ?_
 refine kSR ?_
 refine kC 1 [2,3] ?_
 refine kEN ?_
 refine kb 0 ?_
 refine kSR ?_
 refine kC 2 [2,3,4] ?_
 refine kEN ?_
 refine kBJ 4 h (fun h2 => ?_) (fun h3 => ?_)
 ·refine kT ?_
  refine kSR ?_
  refine kC 1 [2] ?_
  refine kEN ?_
  refine kX ?_
  refine PJ.blockRet ?_
  refine PJ.passRet ?_
  obtain rfl := oi h2
  exact kZ hFn hFH hFD
 ·refine kF ?_
  refine kSR ?_
  refine kC 2 [2,3,6] ?_
  refine kEN ?_
  refine kBJ 6 h3 (fun h5 => ?_) (fun h6 => ?_)
  ·refine kT ?_
   refine kSR ?_
   refine kC 1 [2] ?_
   refine kEN ?_
   refine kX ?_
   refine PJ.blockRet ?_
   refine PJ.passRet ?_
   obtain rfl := oi h5
   exact kZ hFn hFH hFD
  ·refine kF ?_
   refine kSR ?_
   refine kC 2 [2,3,8] ?_
   refine kEN ?_
   refine kBJ 8 h6 (fun h8 => ?_) (fun h9 => ?_)
   ·refine kT ?_
    refine kSR ?_
    refine kC 1 [2] ?_
    refine kEN ?_
    refine kX ?_
    refine PJ.blockRet ?_
    refine PJ.passRet ?_
    obtain rfl := oi h8
    exact kZ hFn hFH hFD
   ·refine kF ?_
    refine kSR ?_
    refine kC 2 [2,3,10] ?_
    refine kEN ?_
    refine kBJ 10 h9 (fun h11 => ?_) (fun h12 => ?_)
    ·refine kT ?_
     refine kSR ?_
     refine kC 1 [2] ?_
     refine kEN ?_
     refine kX ?_
     refine PJ.blockRet ?_
     refine PJ.passRet ?_
     obtain rfl := oi h11
     exact kZ hFn hFH hFD
    ·refine kF ?_
     refine kSR ?_
     refine kC 2 [2,3,12] ?_
     refine kEN ?_
     refine kBJ 12 h12 (fun h14 => ?_) (fun h15 => ?_)
     ·refine kT ?_
      refine kSR ?_
      refine kC 1 [2] ?_
      refine kEN ?_
      refine kX ?_
      refine PJ.blockRet ?_
      refine PJ.passRet ?_
      obtain rfl := oi h14
      exact kZ hFn hFH hFD
     ·refine kF ?_
      refine kSR ?_
      refine kC 2 [2,14] ?_
      refine kEN ?_
      refine kBJ 14 h15 (fun h17 => ?_) (fun h18 => ?_)
      ·refine kT ?_
       refine kSR ?_
       refine RJ.seg 1 [2] (L2 := [(2, .str ([109, 97, 110, 121] : List UInt8))]) (H2 := []) (by kernel_rfl) ?_
       refine kEN ?_
       refine kX ?_
       refine PJ.blockRet ?_
       refine PJ.passRet ?_
       obtain rfl := oi h17
       exact kZ hFn hFH hFD
      ·refine kF ?_
       refine kK ?_
       refine PJ.blockNormal ?_
       refine PJ.next ?_
       refine kSR ?_
       refine RJ.seg 1 [2] (L2 := [(2, .str ([] : List UInt8))]) (H2 := []) (by kernel_rfl) ?_
       refine kEN ?_
       refine kX ?_
       obtain rfl := oi h18
       exact kZ hFn hFH hFD
def exergueref12_Cat (x0 : List UInt8) : Option (Int × Bool) :=
 (Option.bind (loopN (fun (s51 : Int) => (bif (decide (s51 < 6)) then (Option.bind (exergueref12_Name s51) fun y85 => (bif (y85 == x0) then (some (.inr (.inr (s51, true)))) else (some (.inl (IntKind.wrap .i64 (s51 + 1)))))) else (some (.inr (.inl ()))))) big 0) (joinX fun (s46 : Unit) => (some (0, false))))
theorem exergueref12_Cat_ok {x0 : List UInt8} {r : Int × Bool} (h : exergueref12_Cat x0 = some r) : SC Tryz.prog 15 [.str x0] [] (.tup [.int .i64 r.1, .bool r.2]) [] := by
 refine kFn (fn := Tryz.f15) (fun F hFn hFH hFD => ?_)
 unfold exergueref12_Cat at h
 refine kSR ?_
 refine kC 2 [0,2,3] ?_
 refine kEN ?_
 obtain ⟨y47, hy48, h49⟩ := bindS h
 refine K.cutX (by kernel_rfl) (fun (s46 : Unit) => ([(2, .int .i64 0), (3, .bool false)], [])) y47 ?_ (fun s46 hs => ?_)
 ·refine kSR ?_
  refine kC 1 [0,2,3,4] ?_
  refine kEN ?_
  refine kb 0 ?_
  refine kl (fun (s51 : Int) => ([(0, .str x0), (2, .int .i64 0), (3, .bool false), (4, .int .i64 s51)], [])) hy48 [0, 2, 3, 4] (fun s51 x81 hs80 => ?_)
  refine kS ?_
  refine kSR ?_
  refine kC 2 [0,2,3,4,6] ?_
  refine kEN ?_
  refine kBJ 6 hs80 (fun h83 => ?_) (fun h84 => ?_)
  ·refine kT ?_
   refine kK ?_
   refine PJ.next ?_
   refine kS ?_
   refine kb 1 ?_
   refine kSR ?_
   refine kC 1 [0,2,3,4,9] ?_
   obtain ⟨y85, hy86, h87⟩ := bindS h83
   refine kA 10 (exergueref12_Name_ok hy86) ?_
   refine kC 2 [0,2,3,4,12] ?_
   refine kEN ?_
   refine kBJ 12 h87 (fun h89 => ?_) (fun h90 => ?_)
   ·refine kT ?_
    refine kSR ?_
    refine kC 3 [0,2,3,4] ?_
    refine kEN ?_
    refine kX ?_
    refine PJ.blockRet ?_
    refine PJ.passRet ?_
    obtain rfl := oi h89
    refine PJ.loopOut (fun e => nomatch e) (fun he93 => ?_)
    have h91 := congrArg some he93
    refine PJ.blockRet ?_
    obtain rfl := oi h91
    have h92 := joinX_inr h49
    refine PJ.cutXr (fun e => nomatch e) ?_
    obtain rfl := oi h92
    exact kZ hFn hFH hFD
   ·refine kF ?_
    refine kK ?_
    refine PJ.blockNormal ?_
    refine PJ.next ?_
    refine kR ?_
    refine kC 3 [0,2,3,4] ?_
    refine kE ?_
    obtain rfl := oi h90
    exact kLN [0, 2, 3, 4]
  ·refine kF ?_
   refine K.exit 0 (by kernel_rfl) ?_
   refine PJ.passExit ?_
   obtain rfl := oi h84
   refine PJ.loopOut (fun e => nomatch e) (fun he95 => ?_)
   have h94 := congrArg some he95
   refine PJ.blockOut ?_
   obtain rfl := oi h94
   exact kXl [2, 3]
 ·subst hs
  have h50 := joinX_inl h49
  refine kSR ?_
  refine kC 2 [2,3] ?_
  refine kEN ?_
  refine kX ?_
  obtain rfl := oi h50
  exact kZ hFn hFH hFD
def exergueref05_Number : Nat → Int → Option (List UInt8)
 | 0, _ => none
 | n + 1, x0 => (bif (decide (x0 < 0)) then (Option.bind (exergueref05_Number n (IntKind.wrap .i64 (0 - x0))) fun y4 => (bif room (([45] : List UInt8).length + y4.length) then (some (([45] : List UInt8) ++ y4)) else none)) else (Option.bind (loopN (fun (s34 : Int × (List UInt8)) => (bif (decide (s34.1 ≥ 10)) then (bif room (((bytesS (([(IntKind.wrap .u8 ((IntKind.wrap .i64 (48 + ((Int.tmod (IntKind.wrap .i64 (Int.tdiv s34.1 10)) 10))))))] : List Int)))).length + s34.2.length) then (some (.inl ((IntKind.wrap .i64 (Int.tdiv s34.1 10)), (((bytesS (([(IntKind.wrap .u8 ((IntKind.wrap .i64 (48 + ((Int.tmod (IntKind.wrap .i64 (Int.tdiv s34.1 10)) 10))))))] : List Int)))) ++ s34.2)))) else none) else (some (.inr s34.2)))) big (x0, (bytesS (([(IntKind.wrap .u8 ((IntKind.wrap .i64 (48 + (Int.tmod x0 10)))))] : List Int))))) fun (s29 : (List UInt8)) => (some s29)))
theorem exergueref05_Number_ok : ∀ (n : Nat) {x0 : Int} {r : List UInt8} (h : exergueref05_Number n x0 = some r), SC Tryz.prog 59 [.int .i64 x0] [] (.str r) [] := by
 intro n
 induction n with
 | zero => intro x0 r h; cases h
 | succ n ih =>
 intro x0 r h
 refine kFn (fn := Tryz.f59) (fun F hFn hFH hFD => ?_)
 rw [exergueref05_Number.eq_2] at h
 refine kSR ?_
 refine kC 1 [0,2] ?_
 refine kEN ?_
 refine kS ?_
 refine kSR ?_
 refine kC 2 [0,2,5] ?_
 refine kEN ?_
 refine kBJ 5 h (fun h2 => ?_) (fun h3 => ?_)
 ·refine kT ?_
  refine kSR ?_
  refine kC 2 [0,2,7] ?_
  obtain ⟨y4, hy5, h6⟩ := bindS h2
  refine kA 8 (ih hy5) ?_
  obtain ⟨hm, h7⟩ := asrt h6
  refine kQ 9 (.str (([45] : List UInt8) ++ y4)) [] (tr2 := []) hm ?_
  refine kC 1 [0,2] ?_
  refine kEN ?_
  refine kX ?_
  refine PJ.passRet ?_
  obtain rfl := oi h7
  exact kZ hFn hFH hFD
 ·refine kF ?_
  refine kK ?_
  refine PJ.next ?_
  refine kSR ?_
  refine kC 5 [0,2,14] ?_
  refine RJ.rel (d := (some 15)) (ef := ⟨.str (((([(IntKind.wrap .u8 ((IntKind.wrap .i64 (48 + (Int.tmod x0 10)))))] : List Int)).flatMap (encI .u8)).map Go.Sy.byteOf), [0], []⟩) (ef' := ⟨.str (bytesS (([(IntKind.wrap .u8 ((IntKind.wrap .i64 (48 + (Int.tmod x0 10)))))] : List Int))), [0], []⟩) (c := ((([(IntKind.wrap .u8 ((IntKind.wrap .i64 (48 + (Int.tmod x0 10)))))] : List Int)).flatMap (encI .u8)).all isByte) (tr2 := []) (H2 := [vecL (encI .u8) 1 5 (([(IntKind.wrap .u8 ((IntKind.wrap .i64 (48 + (Int.tmod x0 10)))))] : List Int))]) (by kernel_rfl) (allByte (([(IntKind.wrap .u8 ((IntKind.wrap .i64 (48 + (Int.tmod x0 10)))))] : List Int))) (fun hc => N.toStr) (by kernel_rfl) ?_
  refine kC 1 [0,2,3] ?_
  refine kEN ?_
  obtain ⟨s29, hy31, h33⟩ := bindS h3
  refine K.cutN (by kernel_rfl) (fun (s29 : (List UInt8)) => ([(2, .str ([] : List UInt8)), (3, .str s29)], [])) s29 ?_ ?_
  ·refine kb 0 ?_
   refine J.wk (Wk.sel (L2 := [(0, .int .i64 x0), (2, .str ([] : List UInt8)), (3, .str ((bytesS (([(IntKind.wrap .u8 ((IntKind.wrap .i64 (48 + (Int.tmod x0 10)))))] : List Int)))))]) (H2 := []) 0 (by rw [hFH]; rfl) hFD [] (by kernel_rfl) (by kernel_rfl) (by decide) (by kernel_rfl) (by kernel_rfl) (by kernel_rfl) (by kernel_rfl)) ?_
   refine kl (fun (s34 : Int × (List UInt8)) => ([(0, .int .i64 s34.1), (2, .str ([] : List UInt8)), (3, .str s34.2)], [])) hy31 [0, 2, 3] (fun s34 x48 hs47 => ?_)
   refine kS ?_
   refine kSR ?_
   refine kC 2 [0,2,3,17] ?_
   refine kEN ?_
   refine kBJ 17 hs47 (fun h50 => ?_) (fun h51 => ?_)
   ·refine kT ?_
    refine kK ?_
    refine PJ.next ?_
    refine kb 1 ?_
    refine kSR ?_
    refine kC 3 [0,2,3] ?_
    refine kEN ?_
    refine kR ?_
    refine kC 5 [0,2,3,24] ?_
    refine RJ.rel (d := (some 25)) (ef := ⟨.str (((([(IntKind.wrap .u8 ((IntKind.wrap .i64 (48 + ((Int.tmod (IntKind.wrap .i64 (Int.tdiv s34.1 10)) 10))))))] : List Int)).flatMap (encI .u8)).map Go.Sy.byteOf), [0], []⟩) (ef' := ⟨.str (bytesS (([(IntKind.wrap .u8 ((IntKind.wrap .i64 (48 + ((Int.tmod (IntKind.wrap .i64 (Int.tdiv s34.1 10)) 10))))))] : List Int))), [0], []⟩) (c := ((([(IntKind.wrap .u8 ((IntKind.wrap .i64 (48 + ((Int.tmod (IntKind.wrap .i64 (Int.tdiv s34.1 10)) 10))))))] : List Int)).flatMap (encI .u8)).all isByte) (tr2 := []) (H2 := [vecL (encI .u8) 1 5 (([(IntKind.wrap .u8 ((IntKind.wrap .i64 (48 + ((Int.tmod (IntKind.wrap .i64 (Int.tdiv s34.1 10)) 10))))))] : List Int))]) (by kernel_rfl) (allByte (([(IntKind.wrap .u8 ((IntKind.wrap .i64 (48 + ((Int.tmod (IntKind.wrap .i64 (Int.tdiv s34.1 10)) 10))))))] : List Int))) (fun hc => N.toStr) (by kernel_rfl) ?_
    refine kC 1 [0,2,3,25,26] ?_
    obtain ⟨hm, h52⟩ := asrt h50
    refine kQ 27 (.str (((bytesS (([(IntKind.wrap .u8 ((IntKind.wrap .i64 (48 + ((Int.tmod (IntKind.wrap .i64 (Int.tdiv s34.1 10)) 10))))))] : List Int)))) ++ s34.2)) [] (tr2 := []) hm ?_
    refine kC 1 [0,2,3] ?_
    refine kE ?_
    refine PJ.blockNormal ?_
    obtain rfl := oi h52
    refine kW (L2 := [(0, .int .i64 (IntKind.wrap .i64 (Int.tdiv s34.1 10))), (2, .str ([] : List UInt8)), (3, .str ((((bytesS (([(IntKind.wrap .u8 ((IntKind.wrap .i64 (48 + ((Int.tmod (IntKind.wrap .i64 (Int.tdiv s34.1 10)) 10))))))] : List Int)))) ++ s34.2)))]) (H2 := []) hFH hFD [] ?_
    exact kLN [0, 2, 3]
   ·refine kF ?_
    refine K.exit 0 (by kernel_rfl) ?_
    refine PJ.passExit ?_
    obtain rfl := oi h51
    refine PJ.loopOut (fun e => nomatch e) (fun he54 => ?_)
    have h53 := congrArg some he54
    refine PJ.blockOut ?_
    obtain rfl := oi h53
    exact kN [2, 3]
  ·refine kSR ?_
   refine kC 2 [2] ?_
   refine kEN ?_
   refine kX ?_
   obtain rfl := oi h33
   exact kZ hFn hFH hFD
def exergueref11_Text (x0 : List (List St75)) : Option (List UInt8) :=
 (Option.bind (loopN (fun (s9657 : (List UInt8) × Int) => (bif (decide (s9657.2 < (x0.length : Int))) then (Option.bind (Option.bind (bif (decide (s9657.2 > 0)) then (bif room (s9657.1.length + ([32, 111, 114, 32] : List UInt8).length) then (some (s9657.1 ++ ([32, 111, 114, 32] : List UInt8))) else none) else (some s9657.1)) fun (s17707 : (List UInt8)) => (loopN (fun (s17716 : (List UInt8) × Int) => (bif inR s9657.2 x0.length then (bif (decide (s17716.2 < ((nth x0 s9657.2).length : Int))) then (Option.bind (bif inR s9657.2 x0.length then (bif inR s17716.2 (nth x0 s9657.2).length then (Option.bind (bif (decide (s17716.2 > 0)) then (bif room (s17716.1.length + ([32, 97, 110, 100, 32] : List UInt8).length) then (some (s17716.1 ++ ([32, 97, 110, 100, 32] : List UInt8))) else none) else (some s17716.1)) fun (s19051 : (List UInt8)) => (bif room (s19051.length + ((bytesS (([(nth (nth x0 s9657.2) s17716.2).Op_] : List Int)))).length) then (Option.bind (bif (decide (¬ ((nth (nth x0 s9657.2) s17716.2).Mod_) = 0)) then (bif room (((s19051 ++ ((bytesS (([(nth (nth x0 s9657.2) s17716.2).Op_] : List Int)))))).length + ([32, 37, 32] : List UInt8).length) then (Option.bind (exergueref05_Number big ((nth (nth x0 s9657.2) s17716.2).Mod_)) fun y19078 => (bif room (((((s19051 ++ ((bytesS (([(nth (nth x0 s9657.2) s17716.2).Op_] : List Int)))))) ++ ([32, 37, 32] : List UInt8))).length + y19078.length) then (some ((((((s19051 ++ ((bytesS (([(nth (nth x0 s9657.2) s17716.2).Op_] : List Int)))))) ++ ([32, 37, 32] : List UInt8))) ++ y19078))) else none)) else none) else (some ((s19051 ++ ((bytesS (([(nth (nth x0 s9657.2) s17716.2).Op_] : List Int)))))))) fun (s19069 : (List UInt8)) => (Option.bind (bif (nth (nth x0 s9657.2) s17716.2).Not_ then (bif room (s19069.length + ([32, 33, 61, 32] : List UInt8).length) then (some (s19069 ++ ([32, 33, 61, 32] : List UInt8))) else none) else (bif room (s19069.length + ([32, 61, 32] : List UInt8).length) then (some (s19069 ++ ([32, 61, 32] : List UInt8))) else none)) fun (s19087 : (List UInt8)) => (loopN (fun (s19097 : (List UInt8) × Int) => (bif (decide (s19097.2 < ((((nth (nth x0 s9657.2) s17716.2).R_).length : Int)))) then (Option.bind (Option.bind (bif (decide (s19097.2 > 0)) then (bif room (s19097.1.length + ([44] : List UInt8).length) then (some (s19097.1 ++ ([44] : List UInt8))) else none) else (some s19097.1)) fun (s19277 : (List UInt8)) => (bif inR s19097.2 ((nth (nth x0 s9657.2) s17716.2).R_).length then (Option.bind (exergueref05_Number big ((nth ((nth (nth x0 s9657.2) s17716.2).R_) s19097.2).a0_)) fun y19287 => (bif room (s19277.length + y19287.length) then (bif inR s19097.2 ((nth (nth x0 s9657.2) s17716.2).R_).length then (bif inR s19097.2 ((nth (nth x0 s9657.2) s17716.2).R_).length then (bif (decide (¬ ((nth ((nth (nth x0 s9657.2) s17716.2).R_) s19097.2).a1_) = ((nth ((nth (nth x0 s9657.2) s17716.2).R_) s19097.2).a0_))) then (bif room ((s19277 ++ y19287).length + ([46, 46] : List UInt8).length) then (bif inR s19097.2 ((nth (nth x0 s9657.2) s17716.2).R_).length then (Option.bind (exergueref05_Number big ((nth ((nth (nth x0 s9657.2) s17716.2).R_) s19097.2).a1_)) fun y19298 => (bif room (((s19277 ++ y19287) ++ ([46, 46] : List UInt8)).length + y19298.length) then (some ((((s19277 ++ y19287) ++ ([46, 46] : List UInt8)) ++ y19298))) else none)) else none) else none) else (some (s19277 ++ y19287))) else none) else none) else none)) else none)) fun (s19268 : (List UInt8)) => (some (.inl (s19268, (IntKind.wrap .i64 (s19097.2 + 1)))))) else (some (.inr s19097.1)))) big (s19087, 0)))) else none)) else none) else none) fun (s19040 : (List UInt8)) => (some (.inl (s19040, (IntKind.wrap .i64 (s17716.2 + 1)))))) else (some (.inr s17716.1))) else none)) big (s17707, 0))) fun (s17698 : (List UInt8)) => (some (.inl (s17698, (IntKind.wrap .i64 (s9657.2 + 1)))))) else (some (.inr s9657.1)))) big (([] : List UInt8), 0)) fun (s9652 : (List UInt8)) => (some s9652))
theorem exergueref11_Text_ok {x0 : List (List St75)} {r : List UInt8} (h : exergueref11_Text x0 = some r) : SC Tryz.prog 44 [lsv (encL encSt75 4) 1 x0] [] (.str r) [] := by
 refine kFn (fn := Tryz.f44) (fun F hFn hFH hFD => ?_)
 unfold exergueref11_Text at h
 refine kSR ?_
 refine kC 1 [0,2] ?_
 refine kEN ?_
 refine kSR ?_
 refine kC 1 [0,2,3] ?_
 refine kEN ?_
 obtain ⟨s9652, hy9654, h9656⟩ := bindS h
 refine K.cutN (by kernel_rfl) (fun (s9652 : (List UInt8)) => ([(2, .str ([] : List UInt8)), (3, .str s9652)], [])) s9652 ?_ ?_
 ·refine kSR ?_
  refine kC 1 [0,2,3,4] ?_
  refine kEN ?_
  refine kb 0 ?_
  refine kl (fun (s9657 : (List UInt8) × Int) => ([(0, lsv (encL encSt75 4) 1 x0), (2, .str ([] : List UInt8)), (3, .str s9657.1), (4, .int .i64 s9657.2)], [])) hy9654 [0, 2, 3, 4] (fun s9657 x16091 hs16090 => ?_)
  refine kS ?_
  refine kSR ?_
  refine kC 4 [0,2,3,4,11] ?_
  refine kEN ?_
  refine kBJ 11 hs16090 (fun h16093 => ?_) (fun h16094 => ?_)
  ·refine kT ?_
   refine kK ?_
   refine PJ.next ?_
   obtain ⟨s17698, hy17700, h17702⟩ := bindS h16093
   refine K.cutN (by kernel_rfl) (fun (s17698 : (List UInt8)) => ([(0, lsv (encL encSt75 4) 1 x0), (2, .str ([] : List UInt8)), (3, .str s17698), (4, .int .i64 s9657.2)], [])) s17698 ?_ ?_
   ·refine kb 1 ?_
    obtain ⟨s17707, hy17709, h17711⟩ := bindS hy17700
    refine K.cutN (by kernel_rfl) (fun (s17707 : (List UInt8)) => ([(0, lsv (encL encSt75 4) 1 x0), (2, .str ([] : List UInt8)), (3, .str s17707), (4, .int .i64 s9657.2)], [])) s17707 ?_ ?_
    ·refine kSR ?_
     refine kC 2 [0,2,3,4,15] ?_
     refine kEN ?_
     refine kBJ 15 hy17709 (fun h17713 => ?_) (fun h17714 => ?_)
     ·refine kT ?_
      refine kR ?_
      refine kC 1 [0,2,3,4,16] ?_
      obtain ⟨hm, h17715⟩ := asrt h17713
      refine kQ 17 (.str (s9657.1 ++ ([32, 111, 114, 32] : List UInt8))) [] (tr2 := []) hm ?_
      refine kC 1 [0,2,3,4] ?_
      refine kE ?_
      obtain rfl := oi h17715
      exact kN [0, 2, 3, 4]
     ·refine kF ?_
      refine kK ?_
      obtain rfl := oi h17714
      exact kN [0, 2, 3, 4]
    ·refine kSR ?_
     refine kC 1 [0,2,3,4,5] ?_
     refine kEN ?_
     refine kb 2 ?_
     refine kl (fun (s17716 : (List UInt8) × Int) => ([(0, lsv (encL encSt75 4) 1 x0), (2, .str ([] : List UInt8)), (3, .str s17716.1), (4, .int .i64 s9657.2), (5, .int .i64 s17716.2)], [])) h17711 [0, 2, 3, 4, 5] (fun s17716 x18776 hs18775 => ?_)
     refine kS ?_
     refine kSR ?_
     refine kC 3 [0,2,3,4,5,18,19,20] ?_
     obtain ⟨hm, h18777⟩ := asrt hs18775
     refine kI 21 (encL_len encSt75 4) hm ?_
     refine kC 3 [0,2,3,4,5,24] ?_
     refine kEN ?_
     refine kBJ 24 h18777 (fun h18779 => ?_) (fun h18780 => ?_)
     ·refine kT ?_
      refine kK ?_
      refine PJ.next ?_
      obtain ⟨s19040, hy19042, h19044⟩ := bindS h18779
      refine K.cutN (by kernel_rfl) (fun (s19040 : (List UInt8)) => ([(0, lsv (encL encSt75 4) 1 x0), (2, .str ([] : List UInt8)), (3, .str s19040), (4, .int .i64 s9657.2), (5, .int .i64 s17716.2)], [])) s19040 ?_ ?_
      ·refine kb 3 ?_
       refine kSR ?_
       refine kC 2 [0,2,3,4,5,27,28] ?_
       obtain ⟨hm, h19045⟩ := asrt hy19042
       refine kI 29 (encL_len encSt75 4) hm ?_
       refine kC 2 [0,2,3,4,5,30,31] ?_
       obtain ⟨hm, h19046⟩ := asrt h19045
       refine kI 32 encSt75_len hm ?_
       refine kC 3 [0,2,3,4,5,6] ?_
       refine kEN ?_
       obtain ⟨s19051, hy19053, h19055⟩ := bindS h19046
       refine K.cutN (by kernel_rfl) (fun (s19051 : (List UInt8)) => ([(0, lsv (encL encSt75 4) 1 x0), (2, .str ([] : List UInt8)), (3, .str s19051), (4, .int .i64 s9657.2), (5, .int .i64 s17716.2), (6, .ptr 0 0)], [.box [.int .u8 ((nth (nth x0 s9657.2) s17716.2).Op_), .int .i64 ((nth (nth x0 s9657.2) s17716.2).Mod_), .bool ((nth (nth x0 s9657.2) s17716.2).Not_), lsv encSt80 2 ((nth (nth x0 s9657.2) s17716.2).R_)]])) s19051 ?_ ?_
       ·refine kSR ?_
        refine kC 2 [0,2,3,4,5,6,35] ?_
        refine kEN ?_
        refine kBJ 35 hy19053 (fun h19057 => ?_) (fun h19058 => ?_)
        ·refine kT ?_
         refine kR ?_
         refine kC 1 [0,2,3,4,5,6,36] ?_
         obtain ⟨hm, h19059⟩ := asrt h19057
         refine kQ 37 (.str (s17716.1 ++ ([32, 97, 110, 100, 32] : List UInt8))) [] (tr2 := []) hm ?_
         refine kC 1 [0,2,3,4,5,6] ?_
         refine kE ?_
         obtain rfl := oi h19059
         exact kN [0, 2, 3, 4, 5, 6]
        ·refine kF ?_
         refine kK ?_
         obtain rfl := oi h19058
         exact kN [0, 2, 3, 4, 5, 6]
       ·refine kSR ?_
        refine kC 4 [0,2,3,4,5,6,38,41] ?_
        refine RJ.rel (d := (some 42)) (ef := ⟨.str (((([(nth (nth x0 s9657.2) s17716.2).Op_] : List Int)).flatMap (encI .u8)).map Go.Sy.byteOf), [1], []⟩) (ef' := ⟨.str (bytesS (([(nth (nth x0 s9657.2) s17716.2).Op_] : List Int))), [1], []⟩) (c := ((([(nth (nth x0 s9657.2) s17716.2).Op_] : List Int)).flatMap (encI .u8)).all isByte) (tr2 := []) (H2 := [.box [.int .u8 ((nth (nth x0 s9657.2) s17716.2).Op_), .int .i64 ((nth (nth x0 s9657.2) s17716.2).Mod_), .bool ((nth (nth x0 s9657.2) s17716.2).Not_), lsv encSt80 2 ((nth (nth x0 s9657.2) s17716.2).R_)], vecL (encI .u8) 1 5 (([(nth (nth x0 s9657.2) s17716.2).Op_] : List Int))]) (by kernel_rfl) (allByte (([(nth (nth x0 s9657.2) s17716.2).Op_] : List Int))) (fun hc => N.toStr) (by kernel_rfl) ?_
        obtain ⟨hm, h19060⟩ := asrt h19055
        refine kQ 43 (.str (s19051 ++ ((bytesS (([(nth (nth x0 s9657.2) s17716.2).Op_] : List Int)))))) [] (tr2 := []) hm ?_
        refine kC 1 [0,2,3,4,5,6] ?_
        refine kEN ?_
        obtain ⟨s19069, hy19071, h19073⟩ := bindS h19060
        refine K.cutN (by kernel_rfl) (fun (s19069 : (List UInt8)) => ([(0, lsv (encL encSt75 4) 1 x0), (2, .str ([] : List UInt8)), (3, .str s19069), (4, .int .i64 s9657.2), (5, .int .i64 s17716.2), (6, .ptr 0 0)], [.box [.int .u8 ((nth (nth x0 s9657.2) s17716.2).Op_), .int .i64 ((nth (nth x0 s9657.2) s17716.2).Mod_), .bool ((nth (nth x0 s9657.2) s17716.2).Not_), lsv encSt80 2 ((nth (nth x0 s9657.2) s17716.2).R_)]])) s19069 ?_ ?_
        ·refine kSR ?_
         refine kC 3 [0,2,3,4,5,6,46] ?_
         refine kEN ?_
         refine kBJ 46 hy19071 (fun h19075 => ?_) (fun h19076 => ?_)
         ·refine kT ?_
          refine kR ?_
          refine kC 1 [0,2,3,4,5,6,47] ?_
          obtain ⟨hm, h19077⟩ := asrt h19075
          refine kQ 48 (.str (((s19051 ++ ((bytesS (([(nth (nth x0 s9657.2) s17716.2).Op_] : List Int)))))) ++ ([32, 37, 32] : List UInt8))) [] (tr2 := []) hm ?_
          refine kC 2 [0,2,3,4,5,6,48,50] ?_
          obtain ⟨y19078, hy19079, h19080⟩ := bindS h19077
          refine kA 51 (exergueref05_Number_ok big hy19079) ?_
          obtain ⟨hm, h19081⟩ := asrt h19080
          refine kQ 52 (.str (((((s19051 ++ ((bytesS (([(nth (nth x0 s9657.2) s17716.2).Op_] : List Int)))))) ++ ([32, 37, 32] : List UInt8))) ++ y19078)) [] (tr2 := []) hm ?_
          refine kC 1 [0,2,3,4,5,6] ?_
          refine kE ?_
          obtain rfl := oi h19081
          refine kW (L2 := [(0, lsv (encL encSt75 4) 1 x0), (2, .str ([] : List UInt8)), (3, .str ((((((s19051 ++ ((bytesS (([(nth (nth x0 s9657.2) s17716.2).Op_] : List Int)))))) ++ ([32, 37, 32] : List UInt8))) ++ y19078))), (4, .int .i64 s9657.2), (5, .int .i64 s17716.2), (6, .ptr 0 0)]) (H2 := [.box [.int .u8 ((nth (nth x0 s9657.2) s17716.2).Op_), .int .i64 ((nth (nth x0 s9657.2) s17716.2).Mod_), .bool ((nth (nth x0 s9657.2) s17716.2).Not_), lsv encSt80 2 ((nth (nth x0 s9657.2) s17716.2).R_)]]) hFH hFD [0] ?_
          exact kN [0, 2, 3, 4, 5, 6]
         ·refine kF ?_
          refine kK ?_
          obtain rfl := oi h19076
          refine kW (L2 := [(0, lsv (encL encSt75 4) 1 x0), (2, .str ([] : List UInt8)), (3, .str ((s19051 ++ ((bytesS (([(nth (nth x0 s9657.2) s17716.2).Op_] : List Int))))))), (4, .int .i64 s9657.2), (5, .int .i64 s17716.2), (6, .ptr 0 0)]) (H2 := [.box [.int .u8 ((nth (nth x0 s9657.2) s17716.2).Op_), .int .i64 ((nth (nth x0 s9657.2) s17716.2).Mod_), .bool ((nth (nth x0 s9657.2) s17716.2).Not_), lsv encSt80 2 ((nth (nth x0 s9657.2) s17716.2).R_)]]) hFH hFD [0] ?_
          exact kN [0, 2, 3, 4, 5, 6]
        ·obtain ⟨s19087, hy19089, h19091⟩ := bindS h19073
         refine K.cutN (by kernel_rfl) (fun (s19087 : (List UInt8)) => ([(0, lsv (encL encSt75 4) 1 x0), (2, .str ([] : List UInt8)), (3, .str s19087), (4, .int .i64 s9657.2), (5, .int .i64 s17716.2), (6, .ptr 0 0)], [.box [.int .u8 ((nth (nth x0 s9657.2) s17716.2).Op_), .int .i64 ((nth (nth x0 s9657.2) s17716.2).Mod_), .bool ((nth (nth x0 s9657.2) s17716.2).Not_), lsv encSt80 2 ((nth (nth x0 s9657.2) s17716.2).R_)]])) s19087 ?_ ?_
         ·refine kSR ?_
          refine kC 2 [0,2,3,4,5,6,54] ?_
          refine kEN ?_
          refine kBJ 54 hy19089 (fun h19093 => ?_) (fun h19094 => ?_)
          ·refine kT ?_
           refine kR ?_
           refine kC 1 [0,2,3,4,5,6,55] ?_
           obtain ⟨hm, h19095⟩ := asrt h19093
           refine kQ 56 (.str (s19069 ++ ([32, 33, 61, 32] : List UInt8))) [] (tr2 := []) hm ?_
           refine kC 1 [0,2,3,4,5,6] ?_
           refine kE ?_
           obtain rfl := oi h19095
           exact kN [0, 2, 3, 4, 5, 6]
          ·refine kF ?_
           refine kR ?_
           refine kC 1 [0,2,3,4,5,6,57] ?_
           obtain ⟨hm, h19096⟩ := asrt h19094
           refine kQ 58 (.str (s19069 ++ ([32, 61, 32] : List UInt8))) [] (tr2 := []) hm ?_
           refine kC 1 [0,2,3,4,5,6] ?_
           refine kE ?_
           obtain rfl := oi h19096
           exact kN [0, 2, 3, 4, 5, 6]
         ·refine kSR ?_
          refine kC 1 [0,2,3,4,5,6,7] ?_
          refine kEN ?_
          refine kb 4 ?_
          refine kl (fun (s19097 : (List UInt8) × Int) => ([(0, lsv (encL encSt75 4) 1 x0), (2, .str ([] : List UInt8)), (3, .str s19097.1), (4, .int .i64 s9657.2), (5, .int .i64 s17716.2), (6, .ptr 0 0), (7, .int .i64 s19097.2)], [.box [.int .u8 ((nth (nth x0 s9657.2) s17716.2).Op_), .int .i64 ((nth (nth x0 s9657.2) s17716.2).Mod_), .bool ((nth (nth x0 s9657.2) s17716.2).Not_), lsv encSt80 2 ((nth (nth x0 s9657.2) s17716.2).R_)]])) h19091 [0, 2, 3, 4, 5, 6, 7] (fun s19097 x19235 hs19234 => ?_)
          refine kS ?_
          refine kSR ?_
          refine kC 5 [0,2,3,4,5,6,7,63] ?_
          refine kEN ?_
          refine kBJ 63 hs19234 (fun h19237 => ?_) (fun h19238 => ?_)
          ·refine kT ?_
           refine kK ?_
           refine PJ.next ?_
           obtain ⟨s19268, hy19270, h19272⟩ := bindS h19237
           refine K.cutN (by kernel_rfl) (fun (s19268 : (List UInt8)) => ([(0, lsv (encL encSt75 4) 1 x0), (2, .str ([] : List UInt8)), (3, .str s19268), (4, .int .i64 s9657.2), (5, .int .i64 s17716.2), (6, .ptr 0 0), (7, .int .i64 s19097.2)], [.box [.int .u8 ((nth (nth x0 s9657.2) s17716.2).Op_), .int .i64 ((nth (nth x0 s9657.2) s17716.2).Mod_), .bool ((nth (nth x0 s9657.2) s17716.2).Not_), lsv encSt80 2 ((nth (nth x0 s9657.2) s17716.2).R_)]])) s19268 ?_ ?_
           ·refine kb 5 ?_
            obtain ⟨s19277, hy19279, h19281⟩ := bindS hy19270
            refine K.cutN (by kernel_rfl) (fun (s19277 : (List UInt8)) => ([(0, lsv (encL encSt75 4) 1 x0), (2, .str ([] : List UInt8)), (3, .str s19277), (4, .int .i64 s9657.2), (5, .int .i64 s17716.2), (6, .ptr 0 0), (7, .int .i64 s19097.2)], [.box [.int .u8 ((nth (nth x0 s9657.2) s17716.2).Op_), .int .i64 ((nth (nth x0 s9657.2) s17716.2).Mod_), .bool ((nth (nth x0 s9657.2) s17716.2).Not_), lsv encSt80 2 ((nth (nth x0 s9657.2) s17716.2).R_)]])) s19277 ?_ ?_
            ·refine kSR ?_
             refine kC 2 [0,2,3,4,5,6,7,67] ?_
             refine kEN ?_
             refine kBJ 67 hy19279 (fun h19283 => ?_) (fun h19284 => ?_)
             ·refine kT ?_
              refine kR ?_
              refine kC 1 [0,2,3,4,5,6,7,68] ?_
              obtain ⟨hm, h19285⟩ := asrt h19283
              refine kQ 69 (.str (s19097.1 ++ ([44] : List UInt8))) [] (tr2 := []) hm ?_
              refine kC 1 [0,2,3,4,5,6,7] ?_
              refine kE ?_
              obtain rfl := oi h19285
              exact kN [0, 2, 3, 4, 5, 6, 7]
             ·refine kF ?_
              refine kK ?_
              obtain rfl := oi h19284
              exact kN [0, 2, 3, 4, 5, 6, 7]
            ·refine kSR ?_
             refine kC 4 [0,2,3,4,5,6,7,70,72,73] ?_
             obtain ⟨hm, h19286⟩ := asrt h19281
             refine kI 74 encSt80_len hm ?_
             refine kC 2 [0,2,3,4,5,6,7,70,76] ?_
             obtain ⟨y19287, hy19288, h19289⟩ := bindS h19286
             refine kA 77 (exergueref05_Number_ok big hy19288) ?_
             obtain ⟨hm, h19290⟩ := asrt h19289
             refine kQ 78 (.str (s19277 ++ y19287)) [] (tr2 := []) hm ?_
             refine kC 1 [0,2,3,4,5,6,7] ?_
             refine kEN ?_
             refine kS ?_
             refine J.keep [0, 2, 3, 4, 5, 6, 7] (L2 := [(0, lsv (encL encSt75 4) 1 x0), (2, .str ([] : List UInt8)), (3, .str (s19277 ++ y19287)), (4, .int .i64 s9657.2), (5, .int .i64 s17716.2), (6, .ptr 0 0), (7, .int .i64 s19097.2)]) (by kernel_rfl) ?_
             refine K.draw (by kernel_rfl) (by kernel_rfl) (by kernel_rfl) (H2 := [.box [.int .u8 ((nth (nth x0 s9657.2) s17716.2).Op_), .int .i64 ((nth (nth x0 s9657.2) s17716.2).Mod_), .bool ((nth (nth x0 s9657.2) s17716.2).Not_), lsv encSt80 2 ((nth (nth x0 s9657.2) s17716.2).R_)]]) (by kernel_rfl) (n := 1) (by kernel_rfl) ?_
             refine kD 3 ?_
             obtain ⟨hm, h19291⟩ := asrt h19290
             refine kJ 82 (tr2 := [([], []), ([0, 1], []), ([], []), ([], [])]) encSt80_len hm ?_
             refine kD 5 ?_
             obtain ⟨hm, h19292⟩ := asrt h19291
             refine kJ 88 (tr2 := [([], []), ([0, 1], []), ([], []), ([], []), ([], []), ([], []), ([], []), ([0, 1], []), ([], []), ([], [])]) encSt80_len hm ?_
             refine kD 3 ?_
             refine kEN ?_
             refine kBJ 91 h19292 (fun h19294 => ?_) (fun h19295 => ?_)
             ·refine kT ?_
              refine kR ?_
              refine kC 1 [0,2,3,4,5,6,7,92] ?_
              obtain ⟨hm, h19296⟩ := asrt h19294
              refine kQ 93 (.str ((s19277 ++ y19287) ++ ([46, 46] : List UInt8))) [] (tr2 := []) hm ?_
              refine kC 3 [0,2,3,4,5,6,7,93,95,96] ?_
              obtain ⟨hm, h19297⟩ := asrt h19296
              refine kI 97 encSt80_len hm ?_
              refine RJ.seg 2 [0, 2, 3, 4, 5, 6, 7, 93, 99] (L2 := [(0, lsv (encL encSt75 4) 1 x0), (2, .str ([] : List UInt8)), (3, .str (s19277 ++ y19287)), (4, .int .i64 s9657.2), (5, .int .i64 s17716.2), (6, .ptr 0 0), (7, .int .i64 s19097.2), (93, .str ((s19277 ++ y19287) ++ ([46, 46] : List UInt8))), (99, .int .i64 ((nth ((nth (nth x0 s9657.2) s17716.2).R_) s19097.2).a1_))]) (H2 := [.box [.int .u8 ((nth (nth x0 s9657.2) s17716.2).Op_), .int .i64 ((nth (nth x0 s9657.2) s17716.2).Mod_), .bool ((nth (nth x0 s9657.2) s17716.2).Not_), lsv encSt80 2 ((nth (nth x0 s9657.2) s17716.2).R_)]]) (by kernel_rfl) ?_
              obtain ⟨y19298, hy19299, h19300⟩ := bindS h19297
              refine kA 100 (exergueref05_Number_ok big hy19299) ?_
              obtain ⟨hm, h19301⟩ := asrt h19300
              refine kQ 101 (.str (((s19277 ++ y19287) ++ ([46, 46] : List UInt8)) ++ y19298)) [] (tr2 := []) hm ?_
              refine kC 1 [0,2,3,4,5,6,7] ?_
              refine kE ?_
              refine PJ.blockNormal ?_
              obtain rfl := oi h19301
              exact kN [0, 2, 3, 4, 5, 6, 7]
             ·refine kF ?_
              refine kK ?_
              refine PJ.blockNormal ?_
              obtain rfl := oi h19295
              exact kN [0, 2, 3, 4, 5, 6, 7]
           ·refine kR ?_
            refine kC 3 [0,2,3,4,5,6,7] ?_
            refine kE ?_
            obtain rfl := oi h19272
            exact kLN [0, 2, 3, 4, 5, 6, 7]
          ·refine kF ?_
           refine K.exit 4 (by kernel_rfl) ?_
           refine PJ.passExit ?_
           obtain rfl := oi h19238
           refine PJ.loopOut (fun e => nomatch e) (fun he19303 => ?_)
           have h19302 := congrArg some he19303
           refine PJ.blockOut ?_
           refine PJ.blockNormal ?_
           obtain rfl := oi h19302
           refine kW (L2 := [(0, lsv (encL encSt75 4) 1 x0), (2, .str ([] : List UInt8)), (3, .str s19097.1), (4, .int .i64 s9657.2), (5, .int .i64 s17716.2)]) (H2 := []) hFH hFD [] ?_
           exact kN [0, 2, 3, 4, 5]
      ·refine kR ?_
       refine kC 3 [0,2,3,4,5] ?_
       refine kE ?_
       obtain rfl := oi h19044
       exact kLN [0, 2, 3, 4, 5]
     ·refine kF ?_
      refine K.exit 2 (by kernel_rfl) ?_
      refine PJ.passExit ?_
      obtain rfl := oi h18780
      refine PJ.loopOut (fun e => nomatch e) (fun he19305 => ?_)
      have h19304 := congrArg some he19305
      refine PJ.blockOut ?_
      refine PJ.blockNormal ?_
      obtain rfl := oi h19304
      exact kN [0, 2, 3, 4]
   ·refine kR ?_
    refine kC 3 [0,2,3,4] ?_
    refine kE ?_
    obtain rfl := oi h17702
    exact kLN [0, 2, 3, 4]
  ·refine kF ?_
   refine K.exit 0 (by kernel_rfl) ?_
   refine PJ.passExit ?_
   obtain rfl := oi h16094
   refine PJ.loopOut (fun e => nomatch e) (fun he19307 => ?_)
   have h19306 := congrArg some he19307
   refine PJ.blockOut ?_
   obtain rfl := oi h19306
   exact kN [2, 3]
 ·refine kSR ?_
  refine kC 2 [2] ?_
  refine kEN ?_
  refine kX ?_
  obtain rfl := oi h9656
  exact kZ hFn hFH hFD
def exergueref11_over (x0 : List UInt8) (x1 : Int) : Option (Int) :=
 (Option.bind (loopN (fun (s138 : Int) => (Option.bind (Option.bind (bif (decide (s138 < (x0.length : Int))) then (bif inR s138 x0.length then (some ((decide (((((x0.getD (s138 : Int).toNat 0).toNat : Nat) : Int)) = 32)))) else none) else (some false)) fun (s255 : Bool) => (bif s255 then (some (.inl ())) else (some (.inr (.inr s138))))) (joinX fun (s246 : Unit) => (some (.inl (IntKind.wrap .i64 (s138 + 1))))))) big x1) fun (s133 : Int) => (some s133))
theorem exergueref11_over_ok {x0 : List UInt8} {x1 : Int} {r : Int} (h : exergueref11_over x0 x1 = some r) : SC Tryz.prog 42 [.str x0, .int .i64 x1] [] (.int .i64 r) [] := by
 refine kFn (fn := Tryz.f42) (fun F hFn hFH hFD => ?_)
 unfold exergueref11_over at h
 refine kSR ?_
 refine kC 1 [0,1,4] ?_
 refine kEN ?_
 obtain ⟨s133, hy135, h137⟩ := bindS h
 refine K.cutN (by kernel_rfl) (fun (s133 : Int) => ([(1, .int .i64 s133), (4, .int .i64 0)], [])) s133 ?_ ?_
 ·refine kb 0 ?_
  refine kl (fun (s138 : Int) => ([(0, .str x0), (1, .int .i64 s138), (4, .int .i64 0)], [])) hy135 [0, 1, 4] (fun s138 x226 hs225 => ?_)
  obtain ⟨y247, hy248, h249⟩ := bindS hs225
  refine K.cutX (by kernel_rfl) (fun (s246 : Unit) => ([(0, .str x0), (1, .int .i64 s138), (4, .int .i64 0)], [])) y247 ?_ (fun s246 hs => ?_)
  ·obtain ⟨s255, hy257, h259⟩ := bindS hy248
   refine K.cutN (by kernel_rfl) (fun (s255 : Bool) => ([(0, .str x0), (1, .int .i64 s138), (4, .int .i64 0), (14, .bool s255)], [])) s255 ?_ ?_
   ·refine kR ?_
    refine kC 5 [0,1,4,9] ?_
    refine kB 9 hy257 (fun h261 => ?_) (fun h262 => ?_)
    ·refine kC 2 [0,1,4,9,10,11] ?_
     obtain ⟨hm, h263⟩ := asrt h261
     refine kG 12 hm ?_
     refine kC 2 [0,1,4,14] ?_
     refine kE ?_
     obtain rfl := oi h263
     exact kN [0, 1, 4, 14]
    ·refine kC 5 [0,1,4,14] ?_
     refine kE ?_
     obtain rfl := oi h262
     exact kN [0, 1, 4, 14]
   ·refine kBJ 14 h259 (fun h265 => ?_) (fun h266 => ?_)
    ·refine kT ?_
     refine kK ?_
     obtain rfl := oi h265
     exact kXl [0, 1, 4]
    ·refine kF ?_
     refine K.exit 0 (by kernel_rfl) ?_
     obtain rfl := oi h266
     have h267 := joinX_inr h249
     refine PJ.cutXr (fun e => nomatch e) ?_
     obtain rfl := oi h267
     refine PJ.loopOut (fun e => nomatch e) (fun he269 => ?_)
     have h268 := congrArg some he269
     refine PJ.blockOut ?_
     obtain rfl := oi h268
     exact kN [1, 4]
  ·subst hs
   have h250 := joinX_inl h249
   refine kb 1 ?_
   refine kR ?_
   refine kC 3 [0,1,4] ?_
   refine kE ?_
   refine PJ.blockNormal ?_
   obtain rfl := oi h250
   exact kLN [0, 1, 4]
 ·refine kSR ?_
  refine kC 2 [4] ?_
  refine kEN ?_
  refine kX ?_
  obtain rfl := oi h137
  exact kZ hFn hFH hFD
def exergueref11_word (x0 : List UInt8) (x1 : Int) : Option (Int) :=
 (Option.bind (loopN (fun (s186 : Int) => (Option.bind (Option.bind (bif (decide (s186 < (x0.length : Int))) then (bif inR s186 x0.length then (bif (decide (((((x0.getD (s186 : Int).toNat 0).toNat : Nat) : Int)) ≥ 97)) then (bif inR s186 x0.length then (some ((decide (((((x0.getD (s186 : Int).toNat 0).toNat : Nat) : Int)) ≤ 122)))) else none) else (some false)) else none) else (some false)) fun (s347 : Bool) => (bif s347 then (some (.inl ())) else (some (.inr (.inr s186))))) (joinX fun (s334 : Unit) => (some (.inl (IntKind.wrap .i64 (s186 + 1))))))) big x1) fun (s181 : Int) => (some s181))
theorem exergueref11_word_ok {x0 : List UInt8} {x1 : Int} {r : Int} (h : exergueref11_word x0 x1 = some r) : SC Tryz.prog 43 [.str x0, .int .i64 x1] [] (.int .i64 r) [] := by
 refine kFn (fn := Tryz.f43) (fun F hFn hFH hFD => ?_)
 unfold exergueref11_word at h
 refine kSR ?_
 refine kC 1 [0,1,4] ?_
 refine kEN ?_
 obtain ⟨s181, hy183, h185⟩ := bindS h
 refine K.cutN (by kernel_rfl) (fun (s181 : Int) => ([(1, .int .i64 s181), (4, .int .i64 0)], [])) s181 ?_ ?_
 ·refine kb 0 ?_
  refine kl (fun (s186 : Int) => ([(0, .str x0), (1, .int .i64 s186), (4, .int .i64 0)], [])) hy183 [0, 1, 4] (fun s186 x306 hs305 => ?_)
  obtain ⟨y335, hy336, h337⟩ := bindS hs305
  refine K.cutX (by kernel_rfl) (fun (s334 : Unit) => ([(0, .str x0), (1, .int .i64 s186), (4, .int .i64 0)], [])) y335 ?_ (fun s334 hs => ?_)
  ·obtain ⟨s347, hy349, h351⟩ := bindS hy336
   refine K.cutN (by kernel_rfl) (fun (s347 : Bool) => ([(0, .str x0), (1, .int .i64 s186), (4, .int .i64 0), (20, .bool s347)], [])) s347 ?_ ?_
   ·refine kR ?_
    refine kC 5 [0,1,4,9] ?_
    refine kB 9 hy349 (fun h353 => ?_) (fun h354 => ?_)
    ·refine kC 2 [0,1,4,9,10,11] ?_
     obtain ⟨hm, h355⟩ := asrt h353
     refine kG 12 hm ?_
     refine kC 3 [0,1,4,15] ?_
     refine kB 15 h355 (fun h357 => ?_) (fun h358 => ?_)
     ·refine kC 2 [0,1,4,15,16,17] ?_
      obtain ⟨hm, h359⟩ := asrt h357
      refine kG 18 hm ?_
      refine kC 2 [0,1,4,20] ?_
      refine kE ?_
      obtain rfl := oi h359
      exact kN [0, 1, 4, 20]
     ·refine kC 5 [0,1,4,20] ?_
      refine kE ?_
      obtain rfl := oi h358
      exact kN [0, 1, 4, 20]
    ·refine kC 11 [0,1,4,20] ?_
     refine kE ?_
     obtain rfl := oi h354
     exact kN [0, 1, 4, 20]
   ·refine kBJ 20 h351 (fun h361 => ?_) (fun h362 => ?_)
    ·refine kT ?_
     refine kK ?_
     obtain rfl := oi h361
     exact kXl [0, 1, 4]
    ·refine kF ?_
     refine K.exit 0 (by kernel_rfl) ?_
     obtain rfl := oi h362
     have h363 := joinX_inr h337
     refine PJ.cutXr (fun e => nomatch e) ?_
     obtain rfl := oi h363
     refine PJ.loopOut (fun e => nomatch e) (fun he365 => ?_)
     have h364 := congrArg some he365
     refine PJ.blockOut ?_
     obtain rfl := oi h364
     exact kN [1, 4]
  ·subst hs
   have h338 := joinX_inl h337
   refine kb 1 ?_
   refine kR ?_
   refine kC 3 [0,1,4] ?_
   refine kE ?_
   refine PJ.blockNormal ?_
   obtain rfl := oi h338
   exact kLN [0, 1, 4]
 ·refine kSR ?_
  refine kC 2 [4] ?_
  refine kEN ?_
  refine kX ?_
  obtain rfl := oi h185
  exact kZ hFn hFH hFD
def exergueref11_op (x0 : Int) : Option (Bool) :=
 (Option.bind (bif (decide (x0 = 110)) then (some true) else (bif (decide (x0 = 105)) then (some true) else (bif (decide (x0 = 118)) then (some true) else (bif (decide (x0 = 119)) then (some true) else (bif (decide (x0 = 102)) then (some true) else (bif (decide (x0 = 116)) then (some true) else (bif (decide (x0 = 99)) then (some true) else (some (decide (x0 = 101)))))))))) fun (s22 : Bool) => (some s22))
theorem exergueref11_op_ok {x0 : Int} {r : Bool} (h : exergueref11_op x0 = some r) : SC Tryz.prog 55 [.int .u8 x0] [] (.bool r) [] := by
 refine kFn (fn := Tryz.f55) (fun F hFn hFH hFD => ?_)
 unfold exergueref11_op at h
 refine kSR ?_
 refine kC 1 [0,2] ?_
 refine kEN ?_
 obtain ⟨s22, hy24, h26⟩ := bindS h
 refine K.cutN (by kernel_rfl) (fun (s22 : Bool) => ([(2, .bool s22)], [])) s22 ?_ ?_
 ·refine kR ?_
  refine kC 3 [0,2,5] ?_
  refine kB 5 hy24 (fun h28 => ?_) (fun h29 => ?_)
  ·refine kC 28 [2] ?_
   refine kE ?_
   obtain rfl := oi h28
   exact kN [2]
  ·refine kC 4 [0,2,9] ?_
   refine kB 9 h29 (fun h31 => ?_) (fun h32 => ?_)
   ·refine kC 24 [2] ?_
    refine kE ?_
    obtain rfl := oi h31
    exact kN [2]
   ·refine kC 4 [0,2,13] ?_
    refine kB 13 h32 (fun h34 => ?_) (fun h35 => ?_)
    ·refine kC 20 [2] ?_
     refine kE ?_
     obtain rfl := oi h34
     exact kN [2]
    ·refine kC 4 [0,2,17] ?_
     refine kB 17 h35 (fun h37 => ?_) (fun h38 => ?_)
     ·refine kC 16 [2] ?_
      refine kE ?_
      obtain rfl := oi h37
      exact kN [2]
     ·refine kC 4 [0,2,21] ?_
      refine kB 21 h38 (fun h40 => ?_) (fun h41 => ?_)
      ·refine kC 12 [2] ?_
       refine kE ?_
       obtain rfl := oi h40
       exact kN [2]
      ·refine kC 4 [0,2,25] ?_
       refine kB 25 h41 (fun h43 => ?_) (fun h44 => ?_)
       ·refine kC 8 [2] ?_
        refine kE ?_
        obtain rfl := oi h43
        exact kN [2]
       ·refine kC 4 [0,2,29] ?_
        refine kB 29 h44 (fun h46 => ?_) (fun h47 => ?_)
        ·refine RJ.seg 4 [2] (L2 := [(2, .bool true)]) (H2 := []) (by kernel_rfl) ?_
         refine kE ?_
         obtain rfl := oi h46
         exact kN [2]
        ·refine RJ.seg 4 [2] (L2 := [(2, .bool (decide (x0 = 101)))]) (H2 := []) (by kernel_rfl) ?_
         refine kE ?_
         obtain rfl := oi h47
         exact kN [2]
 ·refine kX ?_
  obtain rfl := oi h26
  exact kZ hFn hFH hFD
def exergueref11_sign (x0 : List UInt8) (x1 : Int) (x2 : List UInt8) : Option (Bool) :=
 (Option.bind (bif (decide (((IntKind.wrap .i64 (x1 + (x2.length : Int)))) ≤ (x0.length : Int))) then (bif inS x1 ((IntKind.wrap .i64 (x1 + (x2.length : Int)))) x0.length then (some ((((cut x0 x1 ((IntKind.wrap .i64 (x1 + (x2.length : Int)))))) == x2))) else none) else (some false)) fun (s5 : Bool) => (some s5))
theorem exergueref11_sign_ok {x0 : List UInt8} {x1 : Int} {x2 : List UInt8} {r : Bool} (h : exergueref11_sign x0 x1 x2 = some r) : SC Tryz.prog 56 [.str x0, .int .i64 x1, .str x2] [] (.bool r) [] := by
 refine kFn (fn := Tryz.f56) (fun F hFn hFH hFD => ?_)
 unfold exergueref11_sign at h
 refine kSR ?_
 refine kC 1 [0,1,2,6] ?_
 refine kEN ?_
 obtain ⟨s5, hy7, h9⟩ := bindS h
 refine K.cutN (by kernel_rfl) (fun (s5 : Bool) => ([(6, .bool s5)], [])) s5 ?_ ?_
 ·refine kR ?_
  refine kC 8 [0,1,2,6,14] ?_
  refine kB 14 hy7 (fun h11 => ?_) (fun h12 => ?_)
  ·refine kC 6 [2,6,14,15,16,20] ?_
   obtain ⟨hm, h13⟩ := asrt h11
   refine kQ 21 (.str (cut x0 x1 ((IntKind.wrap .i64 (x1 + (x2.length : Int)))))) [] (tr2 := []) hm ?_
   refine kC 4 [6] ?_
   refine kE ?_
   obtain rfl := oi h13
   exact kN [6]
  ·refine kC 11 [6] ?_
   refine kE ?_
   obtain rfl := oi h12
   exact kN [6]
 ·refine kX ?_
  obtain rfl := oi h9
  exact kZ hFn hFH hFD
def exergueref11_number (x0 : List UInt8) (x1 : Int) (x2 : Int) : Option (Int × Int) :=
 (Option.bind (exergueref11_over x0 x1) fun y1 => (Option.bind (loopN (fun (s228 : Int × Int) => (Option.bind (Option.bind (bif (decide (s228.1 < (x0.length : Int))) then (bif inR s228.1 x0.length then (bif (decide (((((x0.getD (s228.1 : Int).toNat 0).toNat : Nat) : Int)) ≥ 48)) then (bif inR s228.1 x0.length then (some ((decide (((((x0.getD (s228.1 : Int).toNat 0).toNat : Nat) : Int)) ≤ 57)))) else none) else (some false)) else none) else (some false)) fun (s415 : Bool) => (bif s415 then (some (.inl ())) else (some (.inr (.inr (s228.1, s228.2)))))) (joinX fun (s402 : Unit) => (Option.bind (bif (decide ((IntKind.wrap .i64 (s228.1 - y1)) < 9)) then (bif inR s228.1 x0.length then (some ((IntKind.wrap .i64 ((IntKind.wrap .i64 (s228.2 * 10)) + ((IntKind.wrap .i64 ((IntKind.wrap .u8 (((((x0.getD (s228.1 : Int).toNat 0).toNat : Nat) : Int)) - 48))))))))) else none) else (some s228.2)) fun (s438 : Int) => (some (.inl ((IntKind.wrap .i64 (s228.1 + 1)), s438))))))) big (y1, 0)) fun (s223 : Int × Int) => (Option.bind (Option.bind (bif (decide (s223.1 = y1)) then (some true) else (bif (decide ((IntKind.wrap .i64 (s223.1 - y1)) > 9)) then (some true) else (bif inR y1 x0.length then (bif (decide (((((x0.getD (y1 : Int).toNat 0).toNat : Nat) : Int)) = 48)) then (bif (decide ((IntKind.wrap .i64 (s223.1 - y1)) > 1)) then (some true) else (some (decide (s223.2 < x2)))) else (some (decide (s223.2 < x2)))) else none))) fun (s500 : Bool) => (bif s500 then (some (.inr ((-1), y1))) else (some (.inl ())))) (joinX fun (s482 : Unit) => (some (s223.2, s223.1))))))
theorem exergueref11_number_ok {x0 : List UInt8} {x1 : Int} {x2 : Int} {r : Int × Int} (h : exergueref11_number x0 x1 x2 = some r) : SC Tryz.prog 57 [.str x0, .int .i64 x1, .int .i64 x2] [] (.tup [.int .i64 r.1, .int .i64 r.2]) [] := by
 refine kFn (fn := Tryz.f57) (fun F hFn hFH hFD => ?_)
 unfold exergueref11_number at h
 refine kSR ?_
 refine kC 2 [0,1,2,6,7] ?_
 refine kEN ?_
 refine kSR ?_
 refine kC 2 [0,2,6,7,11,12] ?_
 obtain ⟨y1, hy2, h3⟩ := bindS h
 refine kA 13 (exergueref11_over_ok hy2) ?_
 refine kC 1 [0,2,6,7,8] ?_
 refine kEN ?_
 refine kSR ?_
 refine kC 2 [0,2,6,7,8,9] ?_
 refine kEN ?_
 refine kSR ?_
 refine kC 1 [0,2,6,7,8,9,10] ?_
 refine kEN ?_
 obtain ⟨s223, hy225, h227⟩ := bindS h3
 refine K.cutN (by kernel_rfl) (fun (s223 : Int × Int) => ([(0, .str x0), (2, .int .i64 x2), (6, .int .i64 0), (7, .int .i64 0), (8, .int .i64 y1), (9, .int .i64 s223.1), (10, .int .i64 s223.2)], [])) s223 ?_ ?_
 ·refine kb 0 ?_
  refine kl (fun (s228 : Int × Int) => ([(0, .str x0), (2, .int .i64 x2), (6, .int .i64 0), (7, .int .i64 0), (8, .int .i64 y1), (9, .int .i64 s228.1), (10, .int .i64 s228.2)], [])) hy225 [0, 2, 6, 7, 8, 9, 10] (fun s228 x374 hs373 => ?_)
  obtain ⟨y403, hy404, h405⟩ := bindS hs373
  refine K.cutX (by kernel_rfl) (fun (s402 : Unit) => ([(0, .str x0), (2, .int .i64 x2), (6, .int .i64 0), (7, .int .i64 0), (8, .int .i64 y1), (9, .int .i64 s228.1), (10, .int .i64 s228.2)], [])) y403 ?_ (fun s402 hs => ?_)
  ·obtain ⟨s415, hy417, h419⟩ := bindS hy404
   refine K.cutN (by kernel_rfl) (fun (s415 : Bool) => ([(0, .str x0), (2, .int .i64 x2), (6, .int .i64 0), (7, .int .i64 0), (8, .int .i64 y1), (9, .int .i64 s228.1), (10, .int .i64 s228.2), (30, .bool s415)], [])) s415 ?_ ?_
   ·refine kR ?_
    refine kC 5 [0,2,6,7,8,9,10,19] ?_
    refine kB 19 hy417 (fun h421 => ?_) (fun h422 => ?_)
    ·refine kC 2 [0,2,6,7,8,9,10,19,20,21] ?_
     obtain ⟨hm, h423⟩ := asrt h421
     refine kG 22 hm ?_
     refine kC 3 [0,2,6,7,8,9,10,25] ?_
     refine kB 25 h423 (fun h425 => ?_) (fun h426 => ?_)
     ·refine kC 2 [0,2,6,7,8,9,10,25,26,27] ?_
      obtain ⟨hm, h427⟩ := asrt h425
      refine kG 28 hm ?_
      refine kC 2 [0,2,6,7,8,9,10,30] ?_
      refine kE ?_
      obtain rfl := oi h427
      exact kN [0, 2, 6, 7, 8, 9, 10, 30]
     ·refine kC 5 [0,2,6,7,8,9,10,30] ?_
      refine kE ?_
      obtain rfl := oi h426
      exact kN [0, 2, 6, 7, 8, 9, 10, 30]
    ·refine kC 11 [0,2,6,7,8,9,10,30] ?_
     refine kE ?_
     obtain rfl := oi h422
     exact kN [0, 2, 6, 7, 8, 9, 10, 30]
   ·refine kBJ 30 h419 (fun h429 => ?_) (fun h430 => ?_)
    ·refine kT ?_
     refine kK ?_
     obtain rfl := oi h429
     exact kXl [0, 2, 6, 7, 8, 9, 10]
    ·refine kF ?_
     refine K.exit 0 (by kernel_rfl) ?_
     obtain rfl := oi h430
     have h431 := joinX_inr h405
     refine PJ.cutXr (fun e => nomatch e) ?_
     obtain rfl := oi h431
     refine PJ.loopOut (fun e => nomatch e) (fun he433 => ?_)
     have h432 := congrArg some he433
     refine PJ.blockOut ?_
     obtain rfl := oi h432
     exact kN [0, 2, 6, 7, 8, 9, 10]
  ·subst hs
   have h406 := joinX_inl h405
   refine kb 1 ?_
   obtain ⟨s438, hy440, h442⟩ := bindS h406
   refine K.cutN (by kernel_rfl) (fun (s438 : Int) => ([(0, .str x0), (2, .int .i64 x2), (6, .int .i64 0), (7, .int .i64 0), (8, .int .i64 y1), (9, .int .i64 s228.1), (10, .int .i64 s438)], [])) s438 ?_ ?_
   ·refine kSR ?_
    refine kC 4 [0,2,6,7,8,9,10,34] ?_
    refine kEN ?_
    refine kBJ 34 hy440 (fun h444 => ?_) (fun h445 => ?_)
    ·refine kT ?_
     refine kR ?_
     refine kC 4 [0,2,6,7,8,9,10,36,37,38] ?_
     obtain ⟨hm, h446⟩ := asrt h444
     refine kG 39 hm ?_
     refine kC 4 [0,2,6,7,8,9,10] ?_
     refine kE ?_
     obtain rfl := oi h446
     exact kN [0, 2, 6, 7, 8, 9, 10]
    ·refine kF ?_
     refine kK ?_
     obtain rfl := oi h445
     exact kN [0, 2, 6, 7, 8, 9, 10]
   ·refine kR ?_
    refine kC 3 [0,2,6,7,8,9,10] ?_
    refine kE ?_
    refine PJ.blockNormal ?_
    obtain rfl := oi h442
    exact kLN [0, 2, 6, 7, 8, 9, 10]
 ·obtain ⟨y483, hy484, h485⟩ := bindS h227
  refine K.cutX (by kernel_rfl) (fun (s482 : Unit) => ([(6, .int .i64 0), (7, .int .i64 0), (9, .int .i64 s223.1), (10, .int .i64 s223.2)], [])) y483 ?_ (fun s482 hs => ?_)
  ·obtain ⟨s500, hy502, h504⟩ := bindS hy484
   refine K.cutN (by kernel_rfl) (fun (s500 : Bool) => ([(6, .int .i64 0), (7, .int .i64 0), (8, .int .i64 y1), (9, .int .i64 s223.1), (10, .int .i64 s223.2), (70, .bool s500)], [])) s500 ?_ ?_
   ·refine kR ?_
    refine kC 4 [0,2,6,7,8,9,10,48] ?_
    refine kB 48 hy502 (fun h506 => ?_) (fun h507 => ?_)
    ·refine kC 22 [6,7,8,9,10,70] ?_
     refine kE ?_
     obtain rfl := oi h506
     exact kN [6, 7, 8, 9, 10, 70]
    ·refine kC 6 [0,2,6,7,8,9,10,54] ?_
     refine kB 54 h507 (fun h509 => ?_) (fun h510 => ?_)
     ·refine kC 16 [6,7,8,9,10,70] ?_
      refine kE ?_
      obtain rfl := oi h509
      exact kN [6, 7, 8, 9, 10, 70]
     ·refine kC 2 [2,6,7,8,9,10,54,55,56] ?_
      obtain ⟨hm, h511⟩ := asrt h510
      refine kG 57 hm ?_
      refine kC 2 [2,6,7,8,9,10,54,59] ?_
      refine kB 59 h511 (fun h513 => ?_) (fun h514 => ?_)
      ·refine kC 7 [2,6,7,8,9,10,66] ?_
       refine kB 66 h513 (fun h516 => ?_) (fun h517 => ?_)
       ·refine kC 4 [6,7,8,9,10,70] ?_
        refine kE ?_
        obtain rfl := oi h516
        exact kN [6, 7, 8, 9, 10, 70]
       ·refine kC 4 [6,7,8,9,10,70] ?_
        refine kE ?_
        obtain rfl := oi h517
        exact kN [6, 7, 8, 9, 10, 70]
      ·refine kC 11 [6,7,8,9,10,70] ?_
       refine kE ?_
       obtain rfl := oi h514
       exact kN [6, 7, 8, 9, 10, 70]
   ·refine kBJ 70 h504 (fun h519 => ?_) (fun h520 => ?_)
    ·refine kT ?_
     refine kSR ?_
     refine kC 3 [6,7,9,10] ?_
     refine kEN ?_
     refine kX ?_
     obtain rfl := oi h519
     have h521 := joinX_inr h485
     refine PJ.cutXr (fun e => nomatch e) ?_
     obtain rfl := oi h521
     exact kZ hFn hFH hFD
    ·refine kF ?_
     refine kK ?_
     obtain rfl := oi h520
     exact kXl [6, 7, 9, 10]
  ·subst hs
   have h486 := joinX_inl h485
   refine kSR ?_
   refine kC 4 [6,7] ?_
   refine kEN ?_
   refine kX ?_
   obtain rfl := oi h486
   exact kZ hFn hFH hFD
def exergueref11_ranges (x0 : List UInt8) (x1 : Int) : Option ((List St80) × Int × Bool) :=
 (loopN (fun (s1 : Int × (List St80)) => (Option.bind (exergueref11_number x0 s1.1 0) fun y120 => (bif (decide (y120.1 < 0)) then (some (.inr (([] : List St80), y120.2, false))) else (Option.bind (exergueref11_over x0 y120.2) fun y128 => (Option.bind (Option.bind (exergueref11_sign x0 y128 ([46, 46] : List UInt8)) fun y151 => (bif y151 then (Option.bind (exergueref11_number x0 (IntKind.wrap .i64 (y128 + 2)) (IntKind.wrap .i64 (y120.1 + 1))) fun y157 => (bif (decide (y157.1 < 0)) then (some (.inr (.inr (([] : List St80), y157.2, false)))) else (some (.inl (y157.2, y157.1))))) else (some (.inl (y120.2, y120.1))))) (joinX fun (s146 : Int × Int) => (bif room (s1.2.length + ([(⟨y120.1, s146.2⟩ : St80)] : List St80).length) then (Option.bind (exergueref11_over x0 s146.1) fun y167 => (Option.bind (exergueref11_sign x0 y167 ([44] : List UInt8)) fun y170 => (bif (!y170) then (some (.inr ((s1.2 ++ ([(⟨y120.1, s146.2⟩ : St80)] : List St80)), s146.1, true))) else (some (.inl ((IntKind.wrap .i64 (y167 + 1)), (s1.2 ++ ([(⟨y120.1, s146.2⟩ : St80)] : List St80)))))))) else none))))))) big (x1, ([] : List St80)))
theorem exergueref11_ranges_ok {x0 : List UInt8} {x1 : Int} {r : (List St80) × Int × Bool} (h : exergueref11_ranges x0 x1 = some r) : SC Tryz.prog 58 [.str x0, .int .i64 x1] [] (.tup [lsv encSt80 2 r.1, .int .i64 r.2.1, .bool r.2.2]) [] := by
 refine kFn (fn := Tryz.f58) (fun F hFn hFH hFD => ?_)
 unfold exergueref11_ranges at h
 refine kSR ?_
 refine kC 3 [0,1,4,5,6] ?_
 refine kEN ?_
 refine kSR ?_
 refine kC 1 [0,1,4,5,6,7] ?_
 refine kEN ?_
 refine kb 0 ?_
 refine J.wk (Wk.viv 7 2 80 (by kernel_rfl)) ?_
 refine kl (fun (s1 : Int × (List St80)) => ([(0, .str x0), (1, .int .i64 s1.1), (4, .nl), (5, .int .i64 0), (6, .bool false), (7, .vc 0)], [vecL encSt80 2 80 s1.2])) h [0, 1, 4, 5, 6, 7] (fun s1 x119 hs118 => ?_)
 refine kb 1 ?_
 refine kSR ?_
 refine kC 2 [0,1,4,5,6,7,16,17] ?_
 obtain ⟨y120, hy121, h122⟩ := bindS hs118
 refine kA 18 (exergueref11_number_ok hy121) ?_
 refine kC 5 [0,1,4,5,6,7,8,9] ?_
 refine kEN ?_
 refine kS ?_
 refine kSR ?_
 refine kC 2 [0,1,4,5,6,7,8,9,22] ?_
 refine kEN ?_
 refine kBJ 22 h122 (fun h124 => ?_) (fun h125 => ?_)
 ·refine kT ?_
  refine kSR ?_
  refine kC 4 [0,1,4,5,6,7,8,9] ?_
  refine kEN ?_
  refine kX ?_
  refine PJ.passRet ?_
  refine PJ.blockRet ?_
  obtain rfl := oi h124
  refine PJ.loopOut (fun e => nomatch e) (fun he127 => ?_)
  have h126 := congrArg some he127
  refine PJ.blockRet ?_
  obtain rfl := oi h126
  refine PJ.res (v1 := .tup [.nl, .int .i64 y120.2, .bool false]) (Le.tup (.cons (Le.nl _) (.cons (Le.refl _) (.cons (Le.refl _) .nil)))) ?_
  exact kZ hFn hFH hFD
 ·refine kF ?_
  refine kK ?_
  refine PJ.next ?_
  refine kSR ?_
  refine kC 2 [0,1,4,5,6,7,8,9,10] ?_
  refine kEN ?_
  refine kSR ?_
  refine kC 2 [0,1,4,5,6,7,8,9,10,25,26] ?_
  obtain ⟨y128, hy129, h130⟩ := bindS h125
  refine kA 27 (exergueref11_over_ok hy129) ?_
  refine kC 1 [0,1,4,5,6,7,8,9,10,11] ?_
  refine kEN ?_
  obtain ⟨y147, hy148, h149⟩ := bindS h130
  refine K.cutX (by kernel_rfl) (fun (s146 : Int × Int) => ([(0, .str x0), (1, .int .i64 s1.1), (4, .nl), (5, .int .i64 0), (6, .bool false), (7, .vc 0), (8, .int .i64 y120.1), (9, .int .i64 s146.1), (10, .int .i64 s146.2)], [vecL encSt80 2 80 s1.2])) y147 ?_ (fun s146 hs => ?_)
  ·refine kSR ?_
   refine kC 2 [0,1,4,5,6,7,8,9,10,11,28,29] ?_
   obtain ⟨y151, hy152, h153⟩ := bindS hy148
   refine kA 30 (exergueref11_sign_ok hy152) ?_
   refine kEN ?_
   refine kBJ 30 h153 (fun h155 => ?_) (fun h156 => ?_)
   ·refine kT ?_
    refine kSR ?_
    refine kC 5 [0,1,4,5,6,7,8,9,10,32,34,36] ?_
    obtain ⟨y157, hy158, h159⟩ := bindS h155
    refine kA 37 (exergueref11_number_ok hy158) ?_
    refine RJ.seg 5 [0, 1, 4, 5, 6, 7, 8, 9, 10, 12, 13] (L2 := [(0, .str x0), (1, .int .i64 s1.1), (4, .nl), (5, .int .i64 0), (6, .bool false), (7, .vc 0), (8, .int .i64 y120.1), (9, .int .i64 y120.2), (10, .int .i64 y120.1), (12, .int .i64 y157.1), (13, .int .i64 y157.2)]) (H2 := [vecL encSt80 2 80 s1.2]) (by kernel_rfl) ?_
    refine kEN ?_
    refine kS ?_
    refine kSR ?_
    refine kC 2 [0,1,4,5,6,7,8,9,10,12,13,41] ?_
    refine kEN ?_
    refine kBJ 41 h159 (fun h161 => ?_) (fun h162 => ?_)
    ·refine kT ?_
     refine kSR ?_
     refine kC 4 [0,1,4,5,6,7,8,9,10,12,13] ?_
     refine kEN ?_
     refine kX ?_
     refine PJ.passRet ?_
     obtain rfl := oi h161
     have h163 := joinX_inr h149
     refine PJ.cutXr (fun e => nomatch e) ?_
     refine PJ.blockRet ?_
     obtain rfl := oi h163
     refine PJ.loopOut (fun e => nomatch e) (fun he165 => ?_)
     have h164 := congrArg some he165
     refine PJ.blockRet ?_
     obtain rfl := oi h164
     refine PJ.res (v1 := .tup [.nl, .int .i64 y157.2, .bool false]) (Le.tup (.cons (Le.nl _) (.cons (Le.refl _) (.cons (Le.refl _) .nil)))) ?_
     exact kZ hFn hFH hFD
    ·refine kF ?_
     refine kK ?_
     refine PJ.next ?_
     refine kSR ?_
     refine kC 2 [0,1,4,5,6,7,8,9,10,13] ?_
     refine kEN ?_
     refine kR ?_
     refine kC 2 [0,1,4,5,6,7,8,9,10] ?_
     refine kE ?_
     obtain rfl := oi h162
     exact kXl [0, 1, 4, 5, 6, 7, 8, 9, 10]
   ·refine kF ?_
    refine kK ?_
    obtain rfl := oi h156
    exact kXl [0, 1, 4, 5, 6, 7, 8, 9, 10]
  ·subst hs
   have h150 := joinX_inl h149
   refine kSR ?_
   refine kC 5 [0,1,4,5,6,7,9,45,49] ?_
   obtain ⟨hm, h166⟩ := asrt h150
   refine RJ.rel (d := (some 50)) (ef := ⟨.vc 2, [0, 1], [(0, .gone), (2, .vec (s1.2.length + ([(⟨y120.1, s146.2⟩ : St80)] : List St80).length) 2 80 (s1.2.flatMap encSt80 ++ ([(⟨y120.1, s146.2⟩ : St80)] : List St80).flatMap encSt80))]⟩) (ef' := ⟨.vc 2, [0, 1], [(0, .gone), (2, vecL encSt80 2 80 (s1.2 ++ ([(⟨y120.1, s146.2⟩ : St80)] : List St80)))]⟩) (c := room (s1.2.length + ([(⟨y120.1, s146.2⟩ : St80)] : List St80).length)) (tr2 := []) (H2 := [.gone, vecL encSt80 2 80 ([(⟨y120.1, s146.2⟩ : St80)] : List St80), vecL encSt80 2 80 ((s1.2 ++ ([(⟨y120.1, s146.2⟩ : St80)] : List St80)))]) (by kernel_rfl) hm (fun hc => N.app) (by kernel_rfl) ?_
   refine kC 1 [0,1,4,5,6,7,9] ?_
   refine kEN ?_
   refine kSR ?_
   refine kC 2 [0,1,4,5,6,7,9,51,52] ?_
   obtain ⟨y167, hy168, h169⟩ := bindS h166
   refine kA 53 (exergueref11_over_ok hy168) ?_
   refine kC 1 [0,1,4,5,6,7,9,14] ?_
   refine kEN ?_
   refine kS ?_
   refine kSR ?_
   refine kC 2 [0,1,4,5,6,7,9,14,54,55] ?_
   obtain ⟨y170, hy171, h172⟩ := bindS h169
   refine kA 56 (exergueref11_sign_ok hy171) ?_
   refine kC 1 [0,1,4,5,6,7,9,14,57] ?_
   refine kEN ?_
   refine kBJ 57 h172 (fun h174 => ?_) (fun h175 => ?_)
   ·refine kT ?_
    refine kSR ?_
    refine kC 5 [0,1,4,5,6,7,14] ?_
    refine kEN ?_
    refine kX ?_
    refine PJ.passRet ?_
    refine PJ.blockRet ?_
    obtain rfl := oi h174
    refine PJ.loopOut (fun e => nomatch e) (fun he177 => ?_)
    have h176 := congrArg some he177
    refine PJ.blockRet ?_
    obtain rfl := oi h176
    refine PJ.wk (Wk.freeze 2 (n := ((s1.2 ++ ([(⟨y120.1, s146.2⟩ : St80)] : List St80))).length) (k := 2) (e := 80) (cs := ((s1.2 ++ ([(⟨y120.1, s146.2⟩ : St80)] : List St80))).flatMap encSt80) (by kernel_rfl)) ?_
    exact kZ hFn hFH hFD
   ·refine kF ?_
    refine kK ?_
    refine PJ.next ?_
    refine kR ?_
    refine kC 3 [0,1,4,5,6,7] ?_
    refine kE ?_
    refine PJ.blockNormal ?_
    obtain rfl := oi h175
    refine kW (L2 := [(0, .str x0), (1, .int .i64 (IntKind.wrap .i64 (y167 + 1))), (4, .nl), (5, .int .i64 0), (6, .bool false), (7, .vc 0)]) (H2 := [vecL encSt80 2 80 ((s1.2 ++ ([(⟨y120.1, s146.2⟩ : St80)] : List St80)))]) hFH hFD [2] ?_
    exact kLN [0, 1, 4, 5, 6, 7]
def exergueref11_rel (x0 : List UInt8) (x1 : Int) : Option (St75 × Int × Bool) :=
 (Option.bind (exergueref11_over x0 x1) fun y1 => (Option.bind (Option.bind (Option.bind (exergueref11_word x0 y1) fun y53 => (bif (decide (¬ y53 = (IntKind.wrap .i64 (y1 + 1)))) then (some true) else (bif inR y1 x0.length then (Option.bind (exergueref11_op ((((x0.getD (y1 : Int).toNat 0).toNat : Nat) : Int))) fun y60 => (some (!y60))) else none))) fun (s48 : Bool) => (bif s48 then (some (.inr ((⟨0, 0, false, ([] : List St80)⟩ : St75), y1, false))) else (some (.inl ())))) (joinX fun (s33 : Unit) => (bif inR y1 x0.length then (Option.bind (exergueref11_over x0 (IntKind.wrap .i64 (y1 + 1))) fun y68 => (Option.bind (Option.bind (exergueref11_sign x0 y68 ([37] : List UInt8)) fun y92 => (bif y92 then (Option.bind (exergueref11_number x0 (IntKind.wrap .i64 (y68 + 1)) 1) fun y98 => (bif (decide (y98.1 < 0)) then (some (.inr ((⟨(((x0.getD (y1 : Int).toNat 0).toNat : Nat) : Int), 0, false, ([] : List St80)⟩ : St75), y98.2, false))) else (Option.bind (exergueref11_over x0 y98.2) fun y105 => (some (.inl (y105, y98.1)))))) else (some (.inl (y68, 0))))) (joinX fun (s87 : Int × Int) => (Option.bind (Option.bind (exergueref11_sign x0 s87.1 ([33, 61] : List UInt8)) fun y119 => (bif y119 then (some ((IntKind.wrap .i64 (s87.1 + 1)), true)) else (some (s87.1, false)))) fun (s114 : Int × Bool) => (Option.bind (exergueref11_sign x0 s114.1 ([61] : List UInt8)) fun y125 => (bif (!y125) then (some ((⟨(((x0.getD (y1 : Int).toNat 0).toNat : Nat) : Int), s87.2, s114.2, ([] : List St80)⟩ : St75), s114.1, false)) else (Option.bind (exergueref11_ranges x0 (IntKind.wrap .i64 (s114.1 + 1))) fun y131 => (some ((⟨(((x0.getD (y1 : Int).toNat 0).toNat : Nat) : Int), s87.2, s114.2, y131.1⟩ : St75), y131.2.1, y131.2.2))))))))) else none))))
theorem exergueref11_rel_ok {x0 : List UInt8} {x1 : Int} {r : St75 × Int × Bool} (h : exergueref11_rel x0 x1 = some r) : SC Tryz.prog 41 [.str x0, .int .i64 x1] [] (.tup [.agg (encSt75 r.1), .int .i64 r.2.1, .bool r.2.2]) [] := by
 refine kFn (fn := Tryz.f41) (fun F hFn hFH hFD => ?_)
 unfold exergueref11_rel at h
 refine kSR ?_
 refine kC 3 [0,1,4,5,6] ?_
 refine kEN ?_
 refine kSR ?_
 refine kC 3 [0,1,4,5,6,7] ?_
 refine kEN ?_
 refine kSR ?_
 refine kC 2 [0,1,4,5,6,7,14,15] ?_
 obtain ⟨y1, hy2, h3⟩ := bindS h
 refine kA 16 (exergueref11_over_ok hy2) ?_
 refine kC 1 [0,1,4,5,6,7] ?_
 refine kEN ?_
 obtain ⟨y34, hy35, h36⟩ := bindS h3
 refine K.cutX (by kernel_rfl) (fun (s33 : Unit) => ([(0, .str x0), (1, .int .i64 y1), (4, .ptr 0 0), (5, .int .i64 0), (6, .bool false), (7, .ptr 1 0)], [.box [.int .u8 0, .int .i64 0, .bool false, .nl], .box [.int .u8 0, .int .i64 0, .bool false, .nl]])) y34 ?_ (fun s33 hs => ?_)
 ·obtain ⟨s48, hy50, h52⟩ := bindS hy35
  refine K.cutN (by kernel_rfl) (fun (s48 : Bool) => ([(0, .str x0), (1, .int .i64 y1), (4, .ptr 0 0), (5, .int .i64 0), (6, .bool false), (7, .ptr 1 0), (29, .bool s48)], [.box [.int .u8 0, .int .i64 0, .bool false, .nl], .box [.int .u8 0, .int .i64 0, .bool false, .nl]])) s48 ?_ ?_
  ·refine kR ?_
   refine kC 2 [0,1,4,5,6,7,17,18] ?_
   obtain ⟨y53, hy54, h55⟩ := bindS hy50
   refine kA 19 (exergueref11_word_ok hy54) ?_
   refine kC 4 [0,1,4,5,6,7,23] ?_
   refine kB 23 h55 (fun h57 => ?_) (fun h58 => ?_)
   ·refine kC 6 [0,1,4,5,6,7,29] ?_
    refine kE ?_
    obtain rfl := oi h57
    exact kN [0, 1, 4, 5, 6, 7, 29]
   ·refine kC 2 [0,1,4,5,6,7,23,24,25] ?_
    obtain ⟨hm, h59⟩ := asrt h58
    refine kG 26 hm ?_
    obtain ⟨y60, hy61, h62⟩ := bindS h59
    refine kA 27 (exergueref11_op_ok hy61) ?_
    refine kC 2 [0,1,4,5,6,7,29] ?_
    refine kE ?_
    obtain rfl := oi h62
    exact kN [0, 1, 4, 5, 6, 7, 29]
  ·refine kBJ 29 h52 (fun h64 => ?_) (fun h65 => ?_)
   ·refine kT ?_
    refine kSR ?_
    refine kC 5 [0,1,4,5,6,7] ?_
    refine kEN ?_
    refine kX ?_
    obtain rfl := oi h64
    have h66 := joinX_inr h36
    refine PJ.cutXr (fun e => nomatch e) ?_
    obtain rfl := oi h66
    refine PJ.res (v1 := .tup [.agg [.int .u8 0, .int .i64 0, .bool false, .nl], .int .i64 y1, .bool false]) (Le.tup (.cons (Le.agg (.cons (Le.refl _) (.cons (Le.refl _) (.cons (Le.refl _) (.cons (Le.nl _) .nil))))) (.cons (Le.refl _) (.cons (Le.refl _) .nil)))) ?_
    exact kZ hFn hFH hFD
   ·refine kF ?_
    refine kK ?_
    obtain rfl := oi h65
    exact kXl [0, 1, 4, 5, 6, 7]
 ·subst hs
  have h37 := joinX_inl h36
  refine kSR ?_
  refine kC 2 [0,1,4,5,6,7,32,33] ?_
  obtain ⟨hm, h67⟩ := asrt h37
  refine kG 34 hm ?_
  refine kC 2 [0,1,4,5,6,7] ?_
  refine kEN ?_
  refine kSR ?_
  refine kC 3 [0,1,4,5,6,7,36,38] ?_
  obtain ⟨y68, hy69, h70⟩ := bindS h67
  refine kA 39 (exergueref11_over_ok hy69) ?_
  refine kC 1 [0,1,4,5,6,7] ?_
  refine kEN ?_
  obtain ⟨y88, hy89, h90⟩ := bindS h70
  refine K.cutX (by kernel_rfl) (fun (s87 : Int × Int) => ([(0, .str x0), (1, .int .i64 s87.1), (4, .ptr 0 0), (5, .int .i64 0), (6, .bool false), (7, .ptr 1 0)], [.box [.int .u8 0, .int .i64 0, .bool false, .nl], .box [.int .u8 ((((x0.getD (y1 : Int).toNat 0).toNat : Nat) : Int)), .int .i64 s87.2, .bool false, .nl]])) y88 ?_ (fun s87 hs => ?_)
  ·refine kSR ?_
   refine kC 2 [0,1,4,5,6,7,40,41] ?_
   obtain ⟨y92, hy93, h94⟩ := bindS hy89
   refine kA 42 (exergueref11_sign_ok hy93) ?_
   refine kEN ?_
   refine kBJ 42 h94 (fun h96 => ?_) (fun h97 => ?_)
   ·refine kT ?_
    refine kSR ?_
    refine kC 3 [0,1,4,5,6,7,44,46] ?_
    obtain ⟨y98, hy99, h100⟩ := bindS h96
    refine kA 47 (exergueref11_number_ok hy99) ?_
    refine kC 5 [0,1,4,5,6,7,8,9] ?_
    refine kEN ?_
    refine kS ?_
    refine kSR ?_
    refine kC 2 [0,1,4,5,6,7,8,9,51] ?_
    refine kEN ?_
    refine kBJ 51 h100 (fun h102 => ?_) (fun h103 => ?_)
    ·refine kT ?_
     refine kSR ?_
     refine RJ.seg 5 [0, 1, 4, 5, 6, 7, 8, 9] (L2 := [(0, .str x0), (1, .int .i64 y68), (4, .ptr 0 0), (5, .int .i64 y98.2), (6, .bool false), (7, .ptr 1 0), (8, .int .i64 y98.1), (9, .int .i64 y98.2)]) (H2 := [.box [.int .u8 ((((x0.getD (y1 : Int).toNat 0).toNat : Nat) : Int)), .int .i64 0, .bool false, .nl], .box [.int .u8 ((((x0.getD (y1 : Int).toNat 0).toNat : Nat) : Int)), .int .i64 0, .bool false, .nl]]) (by kernel_rfl) ?_
     refine kEN ?_
     refine kX ?_
     refine PJ.passRet ?_
     obtain rfl := oi h102
     have h104 := joinX_inr h90
     refine PJ.cutXr (fun e => nomatch e) ?_
     obtain rfl := oi h104
     refine PJ.res (v1 := .tup [.agg [.int .u8 ((((x0.getD (y1 : Int).toNat 0).toNat : Nat) : Int)), .int .i64 0, .bool false, .nl], .int .i64 y98.2, .bool false]) (Le.tup (.cons (Le.agg (.cons (Le.refl _) (.cons (Le.refl _) (.cons (Le.refl _) (.cons (Le.nl _) .nil))))) (.cons (Le.refl _) (.cons (Le.refl _) .nil)))) ?_
     exact kZ hFn hFH hFD
    ·refine kF ?_
     refine kK ?_
     refine PJ.next ?_
     refine kSR ?_
     refine RJ.seg 3 [0, 1, 4, 5, 6, 7, 9] (L2 := [(0, .str x0), (1, .int .i64 y68), (4, .ptr 0 0), (5, .int .i64 0), (6, .bool false), (7, .ptr 1 0), (9, .int .i64 y98.2)]) (H2 := [.box [.int .u8 0, .int .i64 0, .bool false, .nl], .box [.int .u8 ((((x0.getD (y1 : Int).toNat 0).toNat : Nat) : Int)), .int .i64 y98.1, .bool false, .nl]]) (by kernel_rfl) ?_
     refine kEN ?_
     refine kR ?_
     refine kC 2 [0,1,4,5,6,7,56,57] ?_
     obtain ⟨y105, hy106, h107⟩ := bindS h103
     refine kA 58 (exergueref11_over_ok hy106) ?_
     refine kC 1 [0,1,4,5,6,7] ?_
     refine kE ?_
     obtain rfl := oi h107
     exact kXl [0, 1, 4, 5, 6, 7]
   ·refine kF ?_
    refine kK ?_
    obtain rfl := oi h97
    exact kXl [0, 1, 4, 5, 6, 7]
  ·subst hs
   have h91 := joinX_inl h90
   obtain ⟨s114, hy116, h118⟩ := bindS h91
   refine K.cutN (by kernel_rfl) (fun (s114 : Int × Bool) => ([(0, .str x0), (1, .int .i64 s114.1), (4, .ptr 0 0), (5, .int .i64 0), (6, .bool false), (7, .ptr 1 0)], [.box [.int .u8 0, .int .i64 0, .bool false, .nl], .box [.int .u8 ((((x0.getD (y1 : Int).toNat 0).toNat : Nat) : Int)), .int .i64 s87.2, .bool s114.2, .nl]])) s114 ?_ ?_
   ·refine kSR ?_
    refine kC 2 [0,1,4,5,6,7,59,60] ?_
    obtain ⟨y119, hy120, h121⟩ := bindS hy116
    refine kA 61 (exergueref11_sign_ok hy120) ?_
    refine kEN ?_
    refine kBJ 61 h121 (fun h123 => ?_) (fun h124 => ?_)
    ·refine kT ?_
     refine kSR ?_
     refine kC 2 [0,1,4,5,6,7] ?_
     refine kEN ?_
     refine kR ?_
     refine kC 3 [0,1,4,5,6,7] ?_
     refine kE ?_
     obtain rfl := oi h123
     exact kN [0, 1, 4, 5, 6, 7]
    ·refine kF ?_
     refine kK ?_
     obtain rfl := oi h124
     exact kN [0, 1, 4, 5, 6, 7]
   ·refine kS ?_
    refine kSR ?_
    refine kC 2 [0,1,4,5,6,7,65,66] ?_
    obtain ⟨y125, hy126, h127⟩ := bindS h118
    refine kA 67 (exergueref11_sign_ok hy126) ?_
    refine kC 1 [0,1,4,5,6,7,68] ?_
    refine kEN ?_
    refine kBJ 68 h127 (fun h129 => ?_) (fun h130 => ?_)
    ·refine kT ?_
     refine kSR ?_
     refine kC 5 [0,1,4,5,6,7] ?_
     refine kEN ?_
     refine kX ?_
     refine PJ.passRet ?_
     obtain rfl := oi h129
     refine PJ.res (v1 := .tup [.agg [.int .u8 ((((x0.getD (y1 : Int).toNat 0).toNat : Nat) : Int)), .int .i64 s87.2, .bool s114.2, .nl], .int .i64 s114.1, .bool false]) (Le.tup (.cons (Le.agg (.cons (Le.refl _) (.cons (Le.refl _) (.cons (Le.refl _) (.cons (Le.nl _) .nil))))) (.cons (Le.refl _) (.cons (Le.refl _) .nil)))) ?_
     exact kZ hFn hFH hFD
    ·refine kF ?_
     refine kK ?_
     refine PJ.next ?_
     refine kSR ?_
     refine kC 3 [4,5,6,7,72,74] ?_
     obtain ⟨y131, hy132, h133⟩ := bindS h130
     refine kA 75 (exergueref11_ranges_ok hy132) ?_
     refine kC 7 [4,5,6,7,10,11,12] ?_
     refine kEN ?_
     refine kSR ?_
     refine kC 3 [4,5,6,7,11,12] ?_
     refine kEN ?_
     refine kSR ?_
     refine kC 6 [4,5,6] ?_
     refine kEN ?_
     refine kX ?_
     obtain rfl := oi h133
     exact kZ hFn hFH hFD
def exergueref11_Parse (x0 : List UInt8) : Option ((List (List St75)) × Int × Int) :=
 (bif (decide ((x0.length : Int) > 400)) then (some (([] : List (List St75)), 0, 11)) else (Option.bind (loopN (fun (s312 : Int × Bool × Int × (List (List St75)) × (List St75)) => (Option.bind (exergueref11_rel x0 s312.2.2.1) fun y513 => (bif (!y513.2.2) then (some (.inr (.inr (([] : List (List St75)), y513.2.1, 2)))) else (Option.bind (bif s312.2.1 then (some true) else (bif (decide ((y513.1.R_.length : Int) > 20)) then (some true) else (some ((decide ((IntKind.wrap .i64 (s312.1 + 1)) > 20)))))) fun (s528 : Bool) => (bif room (s312.2.2.2.2.length + ([y513.1] : List St75).length) then (Option.bind (exergueref11_over x0 y513.2.1) fun y540 => (bif (decide (y540 = (x0.length : Int))) then (some (.inr (.inl (s528, s312.2.2.2.1, (s312.2.2.2.2 ++ ([y513.1] : List St75)))))) else (Option.bind (exergueref11_word x0 y540) fun y548 => (Option.bind (Option.bind (bif inS y540 y548 x0.length then (bif ((cut x0 y540 y548) != ([97, 110, 100] : List UInt8)) then (bif inS y540 y548 x0.length then (some ((cut x0 y540 y548) != ([111, 114] : List UInt8))) else none) else (some false)) else none) fun (s583 : Bool) => (bif s583 then (some (.inr (.inr (.inr (([] : List (List St75)), y540, 2))))) else (some (.inl ())))) (joinX fun (s573 : Unit) => (Option.bind (bif inS y540 y548 x0.length then (bif ((cut x0 y540 y548) == ([111, 114] : List UInt8)) then (bif room (s312.2.2.2.1.length + (([(s312.2.2.2.2 ++ ([y513.1] : List St75))] : List (List St75))).length) then (some ((s312.2.2.2.1 ++ (([(s312.2.2.2.2 ++ ([y513.1] : List St75))] : List (List St75)))), ([] : List St75))) else none) else (some (s312.2.2.2.1, (s312.2.2.2.2 ++ ([y513.1] : List St75))))) else none) fun (s605 : (List (List St75)) × (List St75)) => (some (.inl ((IntKind.wrap .i64 (s312.1 + 1)), s528, y548, s605.1, s605.2))))))))) else none))))) big (0, false, 0, ([] : List (List St75)), ([] : List St75))) (joinX fun (s307 : Bool × (List (List St75)) × (List St75)) => (bif s307.1 then (some (([] : List (List St75)), 0, 11)) else (bif room (s307.2.1.length + ([s307.2.2] : List (List St75)).length) then (some ((s307.2.1 ++ ([s307.2.2] : List (List St75))), 0, 0)) else none)))))
theorem exergueref11_Parse_ok {x0 : List UInt8} {r : (List (List St75)) × Int × Int} (h : exergueref11_Parse x0 = some r) : SC Tryz.prog 26 [.str x0] [] (.tup [lsv (encL encSt75 4) 1 r.1, .int .i64 r.2.1, .int .i64 r.2.2]) [] := by
 refine kFn (fn := Tryz.f26) (fun F hFn hFH hFD => ?_)
 unfold exergueref11_Parse at h
 refine kSR ?_
 refine kC 3 [0,2,3,4] ?_
 refine kEN ?_
 refine kS ?_
 refine kSR ?_
 refine kC 3 [0,2,3,4,16] ?_
 refine kEN ?_
 refine kBJ 16 h (fun h2 => ?_) (fun h3 => ?_)
 ·refine kT ?_
  refine kSR ?_
  refine kC 3 [0,2,3,4] ?_
  refine kEN ?_
  refine kX ?_
  refine PJ.passRet ?_
  obtain rfl := oi h2
  refine PJ.res (v1 := .tup [.nl, .int .i64 0, .int .i64 11]) (Le.tup (.cons (Le.nl _) (.cons (Le.refl _) (.cons (Le.refl _) .nil)))) ?_
  exact kZ hFn hFH hFD
 ·refine kF ?_
  refine kK ?_
  refine PJ.next ?_
  refine kSR ?_
  refine kC 1 [0,2,3,4,5] ?_
  refine kEN ?_
  refine kSR ?_
  refine kC 1 [0,2,3,4,5,6] ?_
  refine kEN ?_
  refine kSR ?_
  refine kC 1 [0,2,3,4,5,6,7] ?_
  refine kEN ?_
  refine kSR ?_
  refine kC 1 [0,2,3,4,5,6,7,8] ?_
  refine kEN ?_
  refine kSR ?_
  refine kC 1 [0,2,3,4,5,6,7,8,9] ?_
  refine kEN ?_
  obtain ⟨y308, hy309, h310⟩ := bindS h3
  refine K.cutX (by kernel_rfl) (fun (s307 : Bool × (List (List St75)) × (List St75)) => ([(2, .nl), (3, .int .i64 0), (4, .int .i64 0), (5, .vc 0), (6, .vc 1), (8, .bool s307.1)], [vecL (encL encSt75 4) 1 73 s307.2.1, vecL encSt75 4 76 s307.2.2])) y308 ?_ (fun s307 hs => ?_)
  ·refine kb 0 ?_
   refine J.wk (Wk.viv 5 1 73 (by kernel_rfl)) ?_
   refine J.wk (Wk.viv 6 4 76 (by kernel_rfl)) ?_
   refine kl (fun (s312 : Int × Bool × Int × (List (List St75)) × (List St75)) => ([(0, .str x0), (2, .nl), (3, .int .i64 0), (4, .int .i64 0), (5, .vc 0), (6, .vc 1), (7, .int .i64 s312.1), (8, .bool s312.2.1), (9, .int .i64 s312.2.2.1)], [vecL (encL encSt75 4) 1 73 s312.2.2.2.1, vecL encSt75 4 76 s312.2.2.2.2])) hy309 [0, 2, 3, 4, 5, 6, 7, 8, 9] (fun s312 x512 hs511 => ?_)
   refine kb 1 ?_
   refine kSR ?_
   refine kC 2 [0,2,3,4,5,6,7,8,9,18,19] ?_
   obtain ⟨y513, hy514, h515⟩ := bindS hs511
   refine kA 20 (exergueref11_rel_ok hy514) ?_
   refine kC 8 [0,2,3,4,5,6,7,8,9,10,11,12] ?_
   refine kEN ?_
   refine kS ?_
   refine kSR ?_
   refine kC 2 [0,2,3,4,5,6,7,8,9,10,11,25] ?_
   refine kEN ?_
   refine kBJ 25 h515 (fun h517 => ?_) (fun h518 => ?_)
   ·refine kT ?_
    refine kSR ?_
    refine kC 4 [0,2,3,4,5,6,7,8,9,10,11] ?_
    refine kEN ?_
    refine kX ?_
    refine PJ.passRet ?_
    refine PJ.blockRet ?_
    obtain rfl := oi h517
    refine PJ.loopOut (fun e => nomatch e) (fun he521 => ?_)
    have h519 := congrArg some he521
    refine PJ.blockRet ?_
    obtain rfl := oi h519
    have h520 := joinX_inr h310
    refine PJ.cutXr (fun e => nomatch e) ?_
    obtain rfl := oi h520
    refine PJ.res (v1 := .tup [.nl, .int .i64 y513.2.1, .int .i64 2]) (Le.tup (.cons (Le.nl _) (.cons (Le.refl _) (.cons (Le.refl _) .nil)))) ?_
    exact kZ hFn hFH hFD
   ·refine kF ?_
    refine kK ?_
    refine PJ.next ?_
    refine kSR ?_
    refine kC 3 [0,2,3,4,5,6,7,8,9,10,11] ?_
    refine kEN ?_
    obtain ⟨s528, hy530, h532⟩ := bindS h518
    refine K.cutN (by kernel_rfl) (fun (s528 : Bool) => ([(0, .str x0), (2, .nl), (3, .int .i64 0), (4, .int .i64 0), (5, .vc 0), (6, .vc 1), (7, .int .i64 (IntKind.wrap .i64 (s312.1 + 1))), (8, .bool s528), (9, .int .i64 s312.2.2.1), (10, .ptr 2 0), (11, .int .i64 y513.2.1)], [vecL (encL encSt75 4) 1 73 s312.2.2.2.1, vecL encSt75 4 76 s312.2.2.2.2, .box (encSt75 y513.1)])) s528 ?_ ?_
    ·refine kR ?_
     refine kC 2 [0,2,3,4,5,6,7,8,9,10,11,30] ?_
     refine kB 30 hy530 (fun h534 => ?_) (fun h535 => ?_)
     ·refine kC 10 [0,2,3,4,5,6,7,8,9,10,11] ?_
      refine kE ?_
      obtain rfl := oi h534
      exact kN [0, 2, 3, 4, 5, 6, 7, 8, 9, 10, 11]
     ·refine kC 6 [0,2,3,4,5,6,7,8,9,10,11,36] ?_
      refine kB 36 h535 (fun h537 => ?_) (fun h538 => ?_)
      ·refine kC 4 [0,2,3,4,5,6,7,8,9,10,11] ?_
       refine kE ?_
       obtain rfl := oi h537
       exact kN [0, 2, 3, 4, 5, 6, 7, 8, 9, 10, 11]
      ·refine kC 4 [0,2,3,4,5,6,7,8,9,10,11] ?_
       refine kE ?_
       obtain rfl := oi h538
       exact kN [0, 2, 3, 4, 5, 6, 7, 8, 9, 10, 11]
    ·refine kSR ?_
     refine kC 3 [0,2,3,4,5,6,7,8,9,11,40,42] ?_
     obtain ⟨hm, h539⟩ := asrt h532
     refine RJ.rel (d := (some 43)) (ef := ⟨.vc 4, [1, 3], [(1, .gone), (4, .vec (s312.2.2.2.2.length + ([y513.1] : List St75).length) 4 76 (s312.2.2.2.2.flatMap encSt75 ++ ([y513.1] : List St75).flatMap encSt75))]⟩) (ef' := ⟨.vc 4, [1, 3], [(1, .gone), (4, vecL encSt75 4 76 (s312.2.2.2.2 ++ ([y513.1] : List St75)))]⟩) (c := room (s312.2.2.2.2.length + ([y513.1] : List St75).length)) (tr2 := []) (H2 := [vecL (encL encSt75 4) 1 73 s312.2.2.2.1, .gone, .box (encSt75 y513.1), vecL encSt75 4 76 ([y513.1] : List St75), vecL encSt75 4 76 (s312.2.2.2.2 ++ ([y513.1] : List St75))]) (by kernel_rfl) hm (fun hc => N.app) (by kernel_rfl) ?_
     refine kC 1 [0,2,3,4,5,6,7,8,9,11] ?_
     refine kEN ?_
     refine kSR ?_
     refine kC 2 [0,2,3,4,5,6,7,8,9,44,45] ?_
     obtain ⟨y540, hy541, h542⟩ := bindS h539
     refine kA 46 (exergueref11_over_ok hy541) ?_
     refine kC 1 [0,2,3,4,5,6,7,8,9] ?_
     refine kEN ?_
     refine kS ?_
     refine kSR ?_
     refine kC 4 [0,2,3,4,5,6,7,8,9,50] ?_
     refine kEN ?_
     refine kBJ 50 h542 (fun h544 => ?_) (fun h545 => ?_)
     ·refine kT ?_
      refine K.exit 0 (by kernel_rfl) ?_
      refine PJ.passExit ?_
      refine PJ.blockPass (by kernel_rfl) ?_
      obtain rfl := oi h544
      refine PJ.loopOut (fun e => nomatch e) (fun he547 => ?_)
      have h546 := congrArg some he547
      refine PJ.blockOut ?_
      obtain rfl := oi h546
      refine kW (L2 := [(2, .nl), (3, .int .i64 0), (4, .int .i64 0), (5, .vc 0), (6, .vc 1), (8, .bool s528)]) (H2 := [vecL (encL encSt75 4) 1 73 s312.2.2.2.1, vecL encSt75 4 76 (s312.2.2.2.2 ++ ([y513.1] : List St75))]) hFH hFD [0, 4] ?_
      exact kXl [2, 3, 4, 5, 6, 8]
     ·refine kF ?_
      refine kK ?_
      refine PJ.next ?_
      refine kSR ?_
      refine kC 2 [0,2,3,4,5,6,7,8,9,51,52] ?_
      obtain ⟨y548, hy549, h550⟩ := bindS h545
      refine kA 53 (exergueref11_word_ok hy549) ?_
      refine kC 1 [0,2,3,4,5,6,7,8,9,13] ?_
      refine kEN ?_
      obtain ⟨y574, hy575, h576⟩ := bindS h550
      refine K.cutX (by kernel_rfl) (fun (s573 : Unit) => ([(0, .str x0), (2, .nl), (3, .int .i64 0), (4, .int .i64 0), (5, .vc 0), (6, .vc 1), (7, .int .i64 (IntKind.wrap .i64 (s312.1 + 1))), (8, .bool s528), (9, .int .i64 y540), (13, .int .i64 y548)], [vecL (encL encSt75 4) 1 73 s312.2.2.2.1, vecL encSt75 4 76 (s312.2.2.2.2 ++ ([y513.1] : List St75))])) y574 ?_ (fun s573 hs => ?_)
      ·obtain ⟨s583, hy585, h587⟩ := bindS hy575
       refine K.cutN (by kernel_rfl) (fun (s583 : Bool) => ([(0, .str x0), (2, .nl), (3, .int .i64 0), (4, .int .i64 0), (5, .vc 0), (6, .vc 1), (7, .int .i64 (IntKind.wrap .i64 (s312.1 + 1))), (8, .bool s528), (9, .int .i64 y540), (13, .int .i64 y548), (65, .bool s583)], [vecL (encL encSt75 4) 1 73 s312.2.2.2.1, vecL encSt75 4 76 (s312.2.2.2.2 ++ ([y513.1] : List St75))])) s583 ?_ ?_
       ·refine kR ?_
        refine kC 3 [0,2,3,4,5,6,7,8,9,13,54,55,56] ?_
        obtain ⟨hm, h588⟩ := asrt hy585
        refine kQ 57 (.str (cut x0 y540 y548)) [] (tr2 := []) hm ?_
        refine RJ.seg 2 [0, 2, 3, 4, 5, 6, 7, 8, 9, 13, 59] (L2 := [(0, .str x0), (2, .nl), (3, .int .i64 0), (4, .int .i64 0), (5, .vc 0), (6, .vc 4), (7, .int .i64 (IntKind.wrap .i64 (s312.1 + 1))), (8, .bool s528), (9, .int .i64 y540), (13, .int .i64 y548), (59, .bool ((cut x0 y540 y548) != ([97, 110, 100] : List UInt8)))]) (H2 := [vecL (encL encSt75 4) 1 73 s312.2.2.2.1, .gone, .box (encSt75 y513.1), vecL encSt75 4 76 ([y513.1] : List St75), vecL encSt75 4 76 (s312.2.2.2.2 ++ ([y513.1] : List St75))]) (by kernel_rfl) ?_
        refine kB 59 h588 (fun h590 => ?_) (fun h591 => ?_)
        ·refine kC 3 [0,2,3,4,5,6,7,8,9,13,59,60,61,62] ?_
         obtain ⟨hm, h592⟩ := asrt h590
         refine kQ 63 (.str (cut x0 y540 y548)) [] (tr2 := []) hm ?_
         refine kC 2 [0,2,3,4,5,6,7,8,9,13,65] ?_
         refine kE ?_
         obtain rfl := oi h592
         refine kW (L2 := [(0, .str x0), (2, .nl), (3, .int .i64 0), (4, .int .i64 0), (5, .vc 0), (6, .vc 1), (7, .int .i64 (IntKind.wrap .i64 (s312.1 + 1))), (8, .bool s528), (9, .int .i64 y540), (13, .int .i64 y548), (65, .bool ((cut x0 y540 y548) != ([111, 114] : List UInt8)))]) (H2 := [vecL (encL encSt75 4) 1 73 s312.2.2.2.1, vecL encSt75 4 76 (s312.2.2.2.2 ++ ([y513.1] : List St75))]) hFH hFD [0, 4] ?_
         exact kN [0, 2, 3, 4, 5, 6, 7, 8, 9, 13, 65]
        ·refine kC 6 [0,2,3,4,5,6,7,8,9,13,65] ?_
         refine kE ?_
         obtain rfl := oi h591
         refine kW (L2 := [(0, .str x0), (2, .nl), (3, .int .i64 0), (4, .int .i64 0), (5, .vc 0), (6, .vc 1), (7, .int .i64 (IntKind.wrap .i64 (s312.1 + 1))), (8, .bool s528), (9, .int .i64 y540), (13, .int .i64 y548), (65, .bool false)]) (H2 := [vecL (encL encSt75 4) 1 73 s312.2.2.2.1, vecL encSt75 4 76 (s312.2.2.2.2 ++ ([y513.1] : List St75))]) hFH hFD [0, 4] ?_
         exact kN [0, 2, 3, 4, 5, 6, 7, 8, 9, 13, 65]
       ·refine kBJ 65 h587 (fun h594 => ?_) (fun h595 => ?_)
        ·refine kT ?_
         refine kSR ?_
         refine kC 4 [0,2,3,4,5,6,7,8,9,13] ?_
         refine kEN ?_
         refine kX ?_
         obtain rfl := oi h594
         have h596 := joinX_inr h576
         refine PJ.cutXr (fun e => nomatch e) ?_
         refine PJ.blockRet ?_
         obtain rfl := oi h596
         refine PJ.loopOut (fun e => nomatch e) (fun he599 => ?_)
         have h597 := congrArg some he599
         refine PJ.blockRet ?_
         obtain rfl := oi h597
         have h598 := joinX_inr h310
         refine PJ.cutXr (fun e => nomatch e) ?_
         obtain rfl := oi h598
         refine PJ.res (v1 := .tup [.nl, .int .i64 y540, .int .i64 2]) (Le.tup (.cons (Le.nl _) (.cons (Le.refl _) (.cons (Le.refl _) .nil)))) ?_
         exact kZ hFn hFH hFD
        ·refine kF ?_
         refine kK ?_
         obtain rfl := oi h595
         exact kXl [0, 2, 3, 4, 5, 6, 7, 8, 9, 13]
      ·subst hs
       have h577 := joinX_inl h576
       obtain ⟨s605, hy607, h609⟩ := bindS h577
       refine K.cutN (by kernel_rfl) (fun (s605 : (List (List St75)) × (List St75)) => ([(0, .str x0), (2, .nl), (3, .int .i64 0), (4, .int .i64 0), (5, .vc 0), (6, .vc 1), (7, .int .i64 (IntKind.wrap .i64 (s312.1 + 1))), (8, .bool s528), (9, .int .i64 y540), (13, .int .i64 y548)], [vecL (encL encSt75 4) 1 73 s605.1, vecL encSt75 4 76 s605.2])) s605 ?_ ?_
       ·refine kSR ?_
        refine kC 3 [0,2,3,4,5,6,7,8,9,13,67,68,69] ?_
        obtain ⟨hm, h610⟩ := asrt hy607
        refine kQ 70 (.str (cut x0 y540 y548)) [] (tr2 := []) hm ?_
        refine kC 1 [0,2,3,4,5,6,7,8,9,13,71] ?_
        refine kEN ?_
        refine kBJ 71 h610 (fun h612 => ?_) (fun h613 => ?_)
        ·refine kT ?_
         refine kSR ?_
         refine kC 2 [0,2,3,4,5,6,7,8,9,13,72,73] ?_
         refine RJ.wk (Wk.freeze 1 (n := (s312.2.2.2.2 ++ ([y513.1] : List St75)).length) (k := 4) (e := 76) (cs := (s312.2.2.2.2 ++ ([y513.1] : List St75)).flatMap encSt75) (by kernel_rfl)) ?_
         refine kC 1 [0,2,3,4,5,6,7,8,9,13,72,74] ?_
         obtain ⟨hm, h614⟩ := asrt h612
         refine RJ.rel (d := (some 75)) (ef := ⟨.vc 3, [0, 2], [(0, .gone), (3, .vec (s312.2.2.2.1.length + (([(s312.2.2.2.2 ++ ([y513.1] : List St75))] : List (List St75))).length) 1 73 (s312.2.2.2.1.flatMap (encL encSt75 4) ++ (([(s312.2.2.2.2 ++ ([y513.1] : List St75))] : List (List St75))).flatMap (encL encSt75 4)))]⟩) (ef' := ⟨.vc 3, [0, 2], [(0, .gone), (3, vecL (encL encSt75 4) 1 73 (s312.2.2.2.1 ++ (([(s312.2.2.2.2 ++ ([y513.1] : List St75))] : List (List St75)))))]⟩) (c := room (s312.2.2.2.1.length + (([(s312.2.2.2.2 ++ ([y513.1] : List St75))] : List (List St75))).length)) (tr2 := []) (H2 := [.gone, .gone, vecL (encL encSt75 4) 1 73 (([(s312.2.2.2.2 ++ ([y513.1] : List St75))] : List (List St75))), vecL (encL encSt75 4) 1 73 ((s312.2.2.2.1 ++ (([(s312.2.2.2.2 ++ ([y513.1] : List St75))] : List (List St75)))))]) (by kernel_rfl) hm (fun hc => N.app) (by kernel_rfl) ?_
         refine kC 1 [0,2,3,4,5,6,7,8,9,13] ?_
         refine kEN ?_
         refine kR ?_
         refine kC 1 [0,2,3,4,5,6,7,8,9,13] ?_
         refine kE ?_
         obtain rfl := oi h614
         refine PJ.wk (Wk.viv 6 4 76 (by kernel_rfl)) ?_
         refine kW (L2 := [(0, .str x0), (2, .nl), (3, .int .i64 0), (4, .int .i64 0), (5, .vc 0), (6, .vc 1), (7, .int .i64 (IntKind.wrap .i64 (s312.1 + 1))), (8, .bool s528), (9, .int .i64 y540), (13, .int .i64 y548)]) (H2 := [vecL (encL encSt75 4) 1 73 ((s312.2.2.2.1 ++ (([(s312.2.2.2.2 ++ ([y513.1] : List St75))] : List (List St75))))), vecL encSt75 4 76 ([] : List St75)]) hFH hFD [3, 4] ?_
         exact kN [0, 2, 3, 4, 5, 6, 7, 8, 9, 13]
        ·refine kF ?_
         refine kK ?_
         obtain rfl := oi h613
         exact kN [0, 2, 3, 4, 5, 6, 7, 8, 9, 13]
       ·refine kR ?_
        refine kC 2 [0,2,3,4,5,6,7,8,9] ?_
        refine kE ?_
        refine PJ.blockNormal ?_
        obtain rfl := oi h609
        exact kLN [0, 2, 3, 4, 5, 6, 7, 8, 9]
  ·subst hs
   have h311 := joinX_inl h310
   refine kS ?_
   refine kSR ?_
   refine kC 1 [2,3,4,5,6,77] ?_
   refine kEN ?_
   refine kBJ 77 h311 (fun h616 => ?_) (fun h617 => ?_)
   ·refine kT ?_
    refine kSR ?_
    refine kC 3 [2,3,4,5,6] ?_
    refine kEN ?_
    refine kX ?_
    refine PJ.passRet ?_
    obtain rfl := oi h616
    refine PJ.res (v1 := .tup [.nl, .int .i64 0, .int .i64 11]) (Le.tup (.cons (Le.nl _) (.cons (Le.refl _) (.cons (Le.refl _) .nil)))) ?_
    exact kZ hFn hFH hFD
   ·refine kF ?_
    refine kK ?_
    refine PJ.next ?_
    refine kSR ?_
    refine kC 2 [2,3,4,78,79] ?_
    refine RJ.wk (Wk.freeze 1 (n := s307.2.2.length) (k := 4) (e := 76) (cs := s307.2.2.flatMap encSt75) (by kernel_rfl)) ?_
    refine kC 1 [2,3,4,78,80] ?_
    obtain ⟨hm, h618⟩ := asrt h617
    refine RJ.rel (d := (some 81)) (ef := ⟨.vc 3, [0, 2], [(0, .gone), (3, .vec (s307.2.1.length + ([s307.2.2] : List (List St75)).length) 1 73 (s307.2.1.flatMap (encL encSt75 4) ++ ([s307.2.2] : List (List St75)).flatMap (encL encSt75 4)))]⟩) (ef' := ⟨.vc 3, [0, 2], [(0, .gone), (3, vecL (encL encSt75 4) 1 73 (s307.2.1 ++ ([s307.2.2] : List (List St75))))]⟩) (c := room (s307.2.1.length + ([s307.2.2] : List (List St75)).length)) (tr2 := []) (H2 := [.gone, .gone, vecL (encL encSt75 4) 1 73 ([s307.2.2] : List (List St75)), vecL (encL encSt75 4) 1 73 ((s307.2.1 ++ ([s307.2.2] : List (List St75))))]) (by kernel_rfl) hm (fun hc => N.app) (by kernel_rfl) ?_
    refine kC 3 [2,3,4] ?_
    refine kEN ?_
    refine kX ?_
    obtain rfl := oi h618
    refine PJ.wk (Wk.freeze 3 (n := ((s307.2.1 ++ ([s307.2.2] : List (List St75)))).length) (k := 1) (e := 73) (cs := ((s307.2.1 ++ ([s307.2.2] : List (List St75)))).flatMap (encL encSt75 4)) (by kernel_rfl)) ?_
    exact kZ hFn hFH hFD
def exergueref11_Same (x0 : List (List St75)) (x1 : List (List St75)) : Option (Bool) :=
 (bif (decide (¬ (x0.length : Int) = (x1.length : Int))) then (some false) else (Option.bind (loopN (fun (s5244 : Int) => (bif (decide (s5244 < (x0.length : Int))) then (Option.bind (bif inR s5244 x0.length then (bif inR s5244 x1.length then (bif (decide (¬ ((nth x0 s5244).length : Int) = ((nth x1 s5244).length : Int))) then (some (.inr (.inr (.inr false)))) else (loopN (fun (s9619 : Int) => (bif inR s5244 x0.length then (bif (decide (s9619 < ((nth x0 s5244).length : Int))) then (Option.bind (bif inR s5244 x0.length then (bif inR s9619 (nth x0 s5244).length then (bif inR s5244 x1.length then (bif inR s9619 (nth x1 s5244).length then (Option.bind (Option.bind (bif (decide (¬ ((nth (nth x0 s5244) s9619).Op_) = ((nth (nth x1 s5244) s9619).Op_))) then (some true) else (bif (decide (¬ ((nth (nth x0 s5244) s9619).Mod_) = ((nth (nth x1 s5244) s9619).Mod_))) then (some true) else (bif (((nth (nth x0 s5244) s9619).Not_) != ((nth (nth x1 s5244) s9619).Not_)) then (some true) else (some ((decide (¬ ((((nth (nth x0 s5244) s9619).R_).length : Int)) = ((((nth (nth x1 s5244) s9619).R_).length : Int))))))))) fun (s10390 : Bool) => (bif s10390 then (some (.inr (.inr (.inr (.inr (.inr (.inr false))))))) else (some (.inl ())))) (joinX fun (s10376 : Unit) => (loopN (fun (s10415 : Int) => (bif (decide (s10415 < ((((nth (nth x0 s5244) s9619).R_).length : Int)))) then (bif inR s10415 ((nth (nth x0 s5244) s9619).R_).length then (bif inR s10415 ((nth (nth x1 s5244) s9619).R_).length then (bif (!((decide (((nth ((nth (nth x0 s5244) s9619).R_) s10415).a0_) = ((nth ((nth (nth x1 s5244) s9619).R_) s10415).a0_))) && ((decide (((nth ((nth (nth x0 s5244) s9619).R_) s10415).a1_) = ((nth ((nth (nth x1 s5244) s9619).R_) s10415).a1_))) && true))) then (some (.inr (.inr (.inr (.inr (.inr (.inr false))))))) else (some (.inl (IntKind.wrap .i64 (s10415 + 1))))) else none) else none) else (some (.inr (.inl ()))))) big 0))) else none) else none) else none) else none) (joinX fun (s10333 : Unit) => (some (.inl (IntKind.wrap .i64 (s9619 + 1)))))) else (some (.inr (.inl ())))) else none)) big 0)) else none) else none) (joinX fun (s9605 : Unit) => (some (.inl (IntKind.wrap .i64 (s5244 + 1)))))) else (some (.inr (.inl ()))))) big 0) (joinX fun (s5239 : Unit) => (some true))))
theorem exergueref11_Same_ok {x0 : List (List St75)} {x1 : List (List St75)} {r : Bool} (h : exergueref11_Same x0 x1 = some r) : SC Tryz.prog 28 [lsv (encL encSt75 4) 1 x0, lsv (encL encSt75 4) 1 x1] [] (.bool r) [] := by
 refine kFn (fn := Tryz.f28) (fun F hFn hFH hFD => ?_)
 unfold exergueref11_Same at h
 refine kSR ?_
 refine kC 1 [0,1,4] ?_
 refine kEN ?_
 refine kS ?_
 refine kSR ?_
 refine kC 5 [0,1,4,14] ?_
 refine kEN ?_
 refine kBJ 14 h (fun h2 => ?_) (fun h3 => ?_)
 ·refine kT ?_
  refine kSR ?_
  refine kC 1 [0,1,4] ?_
  refine kEN ?_
  refine kX ?_
  refine PJ.passRet ?_
  obtain rfl := oi h2
  exact kZ hFn hFH hFD
 ·refine kF ?_
  refine kK ?_
  refine PJ.next ?_
  obtain ⟨y5240, hy5241, h5242⟩ := bindS h3
  refine K.cutX (by kernel_rfl) (fun (s5239 : Unit) => ([(4, .bool false)], [])) y5240 ?_ (fun s5239 hs => ?_)
  ·refine kSR ?_
   refine kC 1 [0,1,4,5] ?_
   refine kEN ?_
   refine kb 0 ?_
   refine kl (fun (s5244 : Int) => ([(0, lsv (encL encSt75 4) 1 x0), (1, lsv (encL encSt75 4) 1 x1), (4, .bool false), (5, .int .i64 s5244)], [])) hy5241 [0, 1, 4, 5] (fun s5244 x8734 hs8733 => ?_)
   refine kS ?_
   refine kSR ?_
   refine kC 4 [0,1,4,5,18] ?_
   refine kEN ?_
   refine kBJ 18 hs8733 (fun h8736 => ?_) (fun h8737 => ?_)
   ·refine kT ?_
    refine kK ?_
    refine PJ.next ?_
    obtain ⟨y9606, hy9607, h9608⟩ := bindS h8736
    refine K.cutX (by kernel_rfl) (fun (s9605 : Unit) => ([(0, lsv (encL encSt75 4) 1 x0), (1, lsv (encL encSt75 4) 1 x1), (4, .bool false), (5, .int .i64 s5244)], [])) y9606 ?_ (fun s9605 hs => ?_)
    ·refine kb 1 ?_
     refine kS ?_
     refine kS ?_
     refine J.keep [0, 1, 4, 5] (L2 := [(0, lsv (encL encSt75 4) 1 x0), (1, lsv (encL encSt75 4) 1 x1), (4, .bool false), (5, .int .i64 s5244)]) (by kernel_rfl) ?_
     refine K.draw (by kernel_rfl) (by kernel_rfl) (by kernel_rfl) (H2 := []) (by kernel_rfl) (n := 0) (by kernel_rfl) ?_
     refine kD 2 ?_
     obtain ⟨hm, h9610⟩ := asrt hy9607
     refine kJ 23 (tr2 := [([], []), ([], []), ([], [])]) (encL_len encSt75 4) hm ?_
     refine kD 4 ?_
     obtain ⟨hm, h9611⟩ := asrt h9610
     refine kJ 28 (tr2 := [([], []), ([], []), ([], []), ([], []), ([], []), ([], []), ([], []), ([], [])]) (encL_len encSt75 4) hm ?_
     refine kD 3 ?_
     refine kEN ?_
     refine kBJ 31 h9611 (fun h9613 => ?_) (fun h9614 => ?_)
     ·refine kT ?_
      refine kSR ?_
      refine kC 1 [0,1,4,5] ?_
      refine kEN ?_
      refine kX ?_
      refine PJ.passRet ?_
      refine PJ.blockRet ?_
      obtain rfl := oi h9613
      have h9615 := joinX_inr h9608
      refine PJ.cutXr (fun e => nomatch e) ?_
      obtain rfl := oi h9615
      refine PJ.loopOut (fun e => nomatch e) (fun he9618 => ?_)
      have h9616 := congrArg some he9618
      refine PJ.blockRet ?_
      obtain rfl := oi h9616
      have h9617 := joinX_inr h5242
      refine PJ.cutXr (fun e => nomatch e) ?_
      obtain rfl := oi h9617
      exact kZ hFn hFH hFD
     ·refine kF ?_
      refine kK ?_
      refine PJ.next ?_
      refine kSR ?_
      refine kC 1 [0,1,4,5,6] ?_
      refine kEN ?_
      refine kb 2 ?_
      refine kl (fun (s9619 : Int) => ([(0, lsv (encL encSt75 4) 1 x0), (1, lsv (encL encSt75 4) 1 x1), (4, .bool false), (5, .int .i64 s5244), (6, .int .i64 s9619)], [])) h9614 [0, 1, 4, 5, 6] (fun s9619 x10191 hs10190 => ?_)
      refine kS ?_
      refine kSR ?_
      refine kC 3 [0,1,4,5,6,32,33,34] ?_
      obtain ⟨hm, h10192⟩ := asrt hs10190
      refine kI 35 (encL_len encSt75 4) hm ?_
      refine kC 3 [0,1,4,5,6,38] ?_
      refine kEN ?_
      refine kBJ 38 h10192 (fun h10194 => ?_) (fun h10195 => ?_)
      ·refine kT ?_
       refine kK ?_
       refine PJ.next ?_
       obtain ⟨y10334, hy10335, h10336⟩ := bindS h10194
       refine K.cutX (by kernel_rfl) (fun (s10333 : Unit) => ([(0, lsv (encL encSt75 4) 1 x0), (1, lsv (encL encSt75 4) 1 x1), (4, .bool false), (5, .int .i64 s5244), (6, .int .i64 s9619)], [])) y10334 ?_ (fun s10333 hs => ?_)
       ·refine kb 3 ?_
        refine kSR ?_
        refine kC 2 [0,1,4,5,6,41,42] ?_
        obtain ⟨hm, h10338⟩ := asrt hy10335
        refine kI 43 (encL_len encSt75 4) hm ?_
        refine kC 2 [0,1,4,5,6,44,45] ?_
        obtain ⟨hm, h10339⟩ := asrt h10338
        refine kI 46 encSt75_len hm ?_
        refine kC 3 [0,1,4,5,6,7] ?_
        refine kEN ?_
        refine kSR ?_
        refine kC 2 [0,1,4,5,6,7,48,49] ?_
        obtain ⟨hm, h10340⟩ := asrt h10339
        refine kI 50 (encL_len encSt75 4) hm ?_
        refine kC 2 [0,1,4,5,6,7,51,52] ?_
        obtain ⟨hm, h10341⟩ := asrt h10340
        refine kI 53 encSt75_len hm ?_
        refine kC 3 [0,1,4,5,6,7,8] ?_
        refine kEN ?_
        obtain ⟨y10377, hy10378, h10379⟩ := bindS h10341
        refine K.cutX (by kernel_rfl) (fun (s10376 : Unit) => ([(0, lsv (encL encSt75 4) 1 x0), (1, lsv (encL encSt75 4) 1 x1), (4, .bool false), (5, .int .i64 s5244), (6, .int .i64 s9619), (7, .ptr 0 0), (8, .ptr 1 0)], [.box [.int .u8 ((nth (nth x0 s5244) s9619).Op_), .int .i64 ((nth (nth x0 s5244) s9619).Mod_), .bool ((nth (nth x0 s5244) s9619).Not_), lsv encSt80 2 ((nth (nth x0 s5244) s9619).R_)], .box [.int .u8 ((nth (nth x1 s5244) s9619).Op_), .int .i64 ((nth (nth x1 s5244) s9619).Mod_), .bool ((nth (nth x1 s5244) s9619).Not_), lsv encSt80 2 ((nth (nth x1 s5244) s9619).R_)]])) y10377 ?_ (fun s10376 hs => ?_)
        ·obtain ⟨s10390, hy10392, h10394⟩ := bindS hy10378
         refine K.cutN (by kernel_rfl) (fun (s10390 : Bool) => ([(0, lsv (encL encSt75 4) 1 x0), (1, lsv (encL encSt75 4) 1 x1), (4, .bool false), (5, .int .i64 s5244), (6, .int .i64 s9619), (7, .ptr 0 0), (8, .ptr 1 0), (82, .bool s10390)], [.box [.int .u8 ((nth (nth x0 s5244) s9619).Op_), .int .i64 ((nth (nth x0 s5244) s9619).Mod_), .bool ((nth (nth x0 s5244) s9619).Not_), lsv encSt80 2 ((nth (nth x0 s5244) s9619).R_)], .box [.int .u8 ((nth (nth x1 s5244) s9619).Op_), .int .i64 ((nth (nth x1 s5244) s9619).Mod_), .bool ((nth (nth x1 s5244) s9619).Not_), lsv encSt80 2 ((nth (nth x1 s5244) s9619).R_)]])) s10390 ?_ ?_
         ·refine kR ?_
          refine RJ.seg 6 [0, 1, 4, 5, 6, 7, 8, 60] (L2 := [(0, lsv (encL encSt75 4) 1 x0), (1, lsv (encL encSt75 4) 1 x1), (4, .bool false), (5, .int .i64 s5244), (6, .int .i64 s9619), (7, .ptr 0 0), (8, .ptr 1 0), (60, .bool ((decide (¬ ((nth (nth x0 s5244) s9619).Op_) = ((nth (nth x1 s5244) s9619).Op_)))))]) (H2 := [.box [.int .u8 ((nth (nth x0 s5244) s9619).Op_), .int .i64 ((nth (nth x0 s5244) s9619).Mod_), .bool ((nth (nth x0 s5244) s9619).Not_), lsv encSt80 2 ((nth (nth x0 s5244) s9619).R_)], .box [.int .u8 ((nth (nth x1 s5244) s9619).Op_), .int .i64 ((nth (nth x1 s5244) s9619).Mod_), .bool ((nth (nth x1 s5244) s9619).Not_), lsv encSt80 2 ((nth (nth x1 s5244) s9619).R_)]]) (by kernel_rfl) ?_
          refine kB 60 hy10392 (fun h10396 => ?_) (fun h10397 => ?_)
          ·refine kC 22 [0,1,4,5,6,7,8,82] ?_
           refine kE ?_
           obtain rfl := oi h10396
           exact kN [0, 1, 4, 5, 6, 7, 8, 82]
          ·refine kC 7 [0,1,4,5,6,7,8,67] ?_
           refine kB 67 h10397 (fun h10399 => ?_) (fun h10400 => ?_)
           ·refine kC 15 [0,1,4,5,6,7,8,82] ?_
            refine kE ?_
            obtain rfl := oi h10399
            exact kN [0, 1, 4, 5, 6, 7, 8, 82]
           ·refine kC 7 [0,1,4,5,6,7,8,74] ?_
            refine kB 74 h10400 (fun h10402 => ?_) (fun h10403 => ?_)
            ·refine kC 8 [0,1,4,5,6,7,8,82] ?_
             refine kE ?_
             obtain rfl := oi h10402
             exact kN [0, 1, 4, 5, 6, 7, 8, 82]
            ·refine kC 8 [0,1,4,5,6,7,8,82] ?_
             refine kE ?_
             obtain rfl := oi h10403
             exact kN [0, 1, 4, 5, 6, 7, 8, 82]
         ·refine kBJ 82 h10394 (fun h10405 => ?_) (fun h10406 => ?_)
          ·refine kT ?_
           refine kSR ?_
           refine kC 1 [0,1,4,5,6,7,8] ?_
           refine kEN ?_
           refine kX ?_
           obtain rfl := oi h10405
           have h10407 := joinX_inr h10379
           refine PJ.cutXr (fun e => nomatch e) ?_
           refine PJ.blockRet ?_
           obtain rfl := oi h10407
           have h10408 := joinX_inr h10336
           refine PJ.cutXr (fun e => nomatch e) ?_
           obtain rfl := oi h10408
           refine PJ.loopOut (fun e => nomatch e) (fun he10414 => ?_)
           have h10409 := congrArg some he10414
           refine PJ.blockRet ?_
           refine PJ.blockRet ?_
           obtain rfl := oi h10409
           have h10410 := joinX_inr h9608
           refine PJ.cutXr (fun e => nomatch e) ?_
           obtain rfl := oi h10410
           refine PJ.loopOut (fun e => nomatch e) (fun he10413 => ?_)
           have h10411 := congrArg some he10413
           refine PJ.blockRet ?_
           obtain rfl := oi h10411
           have h10412 := joinX_inr h5242
           refine PJ.cutXr (fun e => nomatch e) ?_
           obtain rfl := oi h10412
           exact kZ hFn hFH hFD
          ·refine kF ?_
           refine kK ?_
           obtain rfl := oi h10406
           exact kXl [0, 1, 4, 5, 6, 7, 8]
        ·subst hs
         have h10380 := joinX_inl h10379
         refine kSR ?_
         refine kC 1 [0,1,4,5,6,7,8,9] ?_
         refine kEN ?_
         refine kb 4 ?_
         refine kl (fun (s10415 : Int) => ([(0, lsv (encL encSt75 4) 1 x0), (1, lsv (encL encSt75 4) 1 x1), (4, .bool false), (5, .int .i64 s5244), (6, .int .i64 s9619), (7, .ptr 0 0), (8, .ptr 1 0), (9, .int .i64 s10415)], [.box [.int .u8 ((nth (nth x0 s5244) s9619).Op_), .int .i64 ((nth (nth x0 s5244) s9619).Mod_), .bool ((nth (nth x0 s5244) s9619).Not_), lsv encSt80 2 ((nth (nth x0 s5244) s9619).R_)], .box [.int .u8 ((nth (nth x1 s5244) s9619).Op_), .int .i64 ((nth (nth x1 s5244) s9619).Mod_), .bool ((nth (nth x1 s5244) s9619).Not_), lsv encSt80 2 ((nth (nth x1 s5244) s9619).R_)]])) h10380 [0, 1, 4, 5, 6, 7, 8, 9] (fun s10415 x10455 hs10454 => ?_)
         refine kS ?_
         refine kSR ?_
         refine kC 5 [0,1,4,5,6,7,8,9,87] ?_
         refine kEN ?_
         refine kBJ 87 hs10454 (fun h10457 => ?_) (fun h10458 => ?_)
         ·refine kT ?_
          refine kK ?_
          refine PJ.next ?_
          refine kS ?_
          refine kb 5 ?_
          refine kS ?_
          refine J.keep [0, 1, 4, 5, 6, 7, 8, 9] (L2 := [(0, lsv (encL encSt75 4) 1 x0), (1, lsv (encL encSt75 4) 1 x1), (4, .bool false), (5, .int .i64 s5244), (6, .int .i64 s9619), (7, .ptr 0 0), (8, .ptr 1 0), (9, .int .i64 s10415)]) (by kernel_rfl) ?_
          refine K.draw (by kernel_rfl) (by kernel_rfl) (by kernel_rfl) (H2 := [.box [.int .u8 ((nth (nth x0 s5244) s9619).Op_), .int .i64 ((nth (nth x0 s5244) s9619).Mod_), .bool ((nth (nth x0 s5244) s9619).Not_), lsv encSt80 2 ((nth (nth x0 s5244) s9619).R_)], .box [.int .u8 ((nth (nth x1 s5244) s9619).Op_), .int .i64 ((nth (nth x1 s5244) s9619).Mod_), .bool ((nth (nth x1 s5244) s9619).Not_), lsv encSt80 2 ((nth (nth x1 s5244) s9619).R_)]]) (by kernel_rfl) (n := 2) (by kernel_rfl) ?_
          refine kD 3 ?_
          obtain ⟨hm, h10459⟩ := asrt h10457
          refine kJ 93 (tr2 := [([], []), ([0, 1], []), ([], []), ([], [])]) encSt80_len hm ?_
          refine kD 4 ?_
          obtain ⟨hm, h10460⟩ := asrt h10459
          refine kJ 98 (tr2 := [([], []), ([0, 1], []), ([], []), ([], []), ([], []), ([], []), ([2, 3], []), ([], []), ([], [])]) encSt80_len hm ?_
          refine kD 2 ?_
          refine kEN ?_
          refine kBJ 100 h10460 (fun h10462 => ?_) (fun h10463 => ?_)
          ·refine kT ?_
           refine kSR ?_
           refine kC 1 [0,1,4,5,6,7,8,9] ?_
           refine kEN ?_
           refine kX ?_
           refine PJ.blockRet ?_
           refine PJ.passRet ?_
           obtain rfl := oi h10462
           refine PJ.loopOut (fun e => nomatch e) (fun he10472 => ?_)
           have h10464 := congrArg some he10472
           refine PJ.blockRet ?_
           refine PJ.blockRet ?_
           obtain rfl := oi h10464
           have h10465 := joinX_inr h10336
           refine PJ.cutXr (fun e => nomatch e) ?_
           obtain rfl := oi h10465
           refine PJ.loopOut (fun e => nomatch e) (fun he10471 => ?_)
           have h10466 := congrArg some he10471
           refine PJ.blockRet ?_
           refine PJ.blockRet ?_
           obtain rfl := oi h10466
           have h10467 := joinX_inr h9608
           refine PJ.cutXr (fun e => nomatch e) ?_
           obtain rfl := oi h10467
           refine PJ.loopOut (fun e => nomatch e) (fun he10470 => ?_)
           have h10468 := congrArg some he10470
           refine PJ.blockRet ?_
           obtain rfl := oi h10468
           have h10469 := joinX_inr h5242
           refine PJ.cutXr (fun e => nomatch e) ?_
           obtain rfl := oi h10469
           exact kZ hFn hFH hFD
          ·refine kF ?_
           refine kK ?_
           refine PJ.blockNormal ?_
           refine PJ.next ?_
           refine kR ?_
           refine kC 3 [0,1,4,5,6,7,8,9] ?_
           refine kE ?_
           obtain rfl := oi h10463
           exact kLN [0, 1, 4, 5, 6, 7, 8, 9]
         ·refine kF ?_
          refine K.exit 4 (by kernel_rfl) ?_
          refine PJ.passExit ?_
          obtain rfl := oi h10458
          refine PJ.loopOut (fun e => nomatch e) (fun he10474 => ?_)
          have h10473 := congrArg some he10474
          refine PJ.blockOut ?_
          refine PJ.blockNormal ?_
          obtain rfl := oi h10473
          refine kW (L2 := [(0, lsv (encL encSt75 4) 1 x0), (1, lsv (encL encSt75 4) 1 x1), (4, .bool false), (5, .int .i64 s5244), (6, .int .i64 s9619)]) (H2 := []) hFH hFD [] ?_
          exact kXl [0, 1, 4, 5, 6]
       ·subst hs
        have h10337 := joinX_inl h10336
        refine kR ?_
        refine kC 3 [0,1,4,5,6] ?_
        refine kE ?_
        obtain rfl := oi h10337
        exact kLN [0, 1, 4, 5, 6]
      ·refine kF ?_
       refine K.exit 2 (by kernel_rfl) ?_
       refine PJ.passExit ?_
       obtain rfl := oi h10195
       refine PJ.loopOut (fun e => nomatch e) (fun he10476 => ?_)
       have h10475 := congrArg some he10476
       refine PJ.blockOut ?_
       refine PJ.blockNormal ?_
       obtain rfl := oi h10475
       exact kXl [0, 1, 4, 5]
    ·subst hs
     have h9609 := joinX_inl h9608
     refine kR ?_
     refine kC 3 [0,1,4,5] ?_
     refine kE ?_
     obtain rfl := oi h9609
     exact kLN [0, 1, 4, 5]
   ·refine kF ?_
    refine K.exit 0 (by kernel_rfl) ?_
    refine PJ.passExit ?_
    obtain rfl := oi h8737
    refine PJ.loopOut (fun e => nomatch e) (fun he10478 => ?_)
    have h10477 := congrArg some he10478
    refine PJ.blockOut ?_
    obtain rfl := oi h10477
    exact kXl [4]
  ·subst hs
   have h5243 := joinX_inl h5242
   refine kSR ?_
   refine kC 1 [4] ?_
   refine kEN ?_
   refine kX ?_
   obtain rfl := oi h5243
   exact kZ hFn hFH hFD
def exergueref11_Right (x0 : List (List St75)) : Option (Bool) :=
 (Option.bind (exergueref11_Text x0) fun y1 => (Option.bind (exergueref11_Parse y1) fun y4 => (Option.bind (bif (decide (y4.2.2 = 0)) then (Option.bind (exergueref11_Same x0 y4.1) fun y21 => (some y21)) else (some false)) fun (s13 : Bool) => (some s13))))
theorem exergueref11_Right_ok {x0 : List (List St75)} {r : Bool} (h : exergueref11_Right x0 = some r) : SC Tryz.prog 27 [lsv (encL encSt75 4) 1 x0] [] (.bool r) [] := by
 refine kFn (fn := Tryz.f27) (fun F hFn hFH hFD => ?_)
 unfold exergueref11_Right at h
 refine kSR ?_
 refine kC 1 [0,2] ?_
 refine kEN ?_
 refine kSR ?_
 refine kC 1 [0,2,7] ?_
 obtain ⟨y1, hy2, h3⟩ := bindS h
 refine kA 8 (exergueref11_Text_ok hy2) ?_
 obtain ⟨y4, hy5, h6⟩ := bindS h3
 refine kA 9 (exergueref11_Parse_ok hy5) ?_
 refine kC 7 [0,2,3,5] ?_
 refine kEN ?_
 obtain ⟨s13, hy15, h17⟩ := bindS h6
 refine K.cutN (by kernel_rfl) (fun (s13 : Bool) => ([(2, .bool s13)], [])) s13 ?_ ?_
 ·refine kR ?_
  refine kC 3 [0,2,3,15] ?_
  refine kB 15 hy15 (fun h19 => ?_) (fun h20 => ?_)
  ·refine kC 2 [2,15,16,17] ?_
   obtain ⟨y21, hy22, h23⟩ := bindS h19
   refine kA 18 (exergueref11_Same_ok hy22) ?_
   refine kC 2 [2] ?_
   refine kE ?_
   obtain rfl := oi h23
   exact kN [2]
  ·refine kC 5 [2] ?_
   refine kE ?_
   obtain rfl := oi h20
   exact kN [2]
 ·refine kX ?_
  obtain rfl := oi h17
  exact kZ hFn hFH hFD
end Go.Proofs.YteaokhdkocddcaaGreatDoor
