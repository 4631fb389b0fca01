/-
  What the functions of this program come to, as functions of natives, each with the proof that it does. No conditions.
-/
import Derived.Test.YteaokhdkocddcaaDoorProg
import Derived.Test.YteaokhdkocddcaaDoorSySL
import Derived.Test.YteaokhdkocddcaaDoorGa
namespace Go.Proofs.YteaokhdkocddcaaDoor
open Go Go.Sy Go.RowKit
set_option linter.unusedVariables false
set_option linter.unusedSimpArgs false
set_option maxRecDepth 100000
set_option maxHeartbeats 4000000
def slices_Reverse_s0 (x0 : List Int) : Option ((List Int)) :=
 (loopN (fun (s1 : Int × Int × (List Int)) => (bif (decide (s1.1 < s1.2.1)) then (bif inR s1.2.1 s1.2.2.length then (bif inR s1.2.1 s1.2.2.length then (bif inR s1.1 s1.2.2.length then (bif inR s1.1 s1.2.2.length then (bif inR s1.1 s1.2.2.length then (bif inR s1.1 s1.2.2.length then (bif inR s1.2.1 (setAt s1.2.2 s1.1 (nth s1.2.2 s1.2.1)).length then (bif inR s1.2.1 (setAt s1.2.2 s1.1 (nth s1.2.2 s1.2.1)).length then (some (.inl ((IntKind.wrap .i64 (s1.1 + 1)), (IntKind.wrap .i64 (s1.2.1 - 1)), (setAt (setAt s1.2.2 s1.1 (nth s1.2.2 s1.2.1)) s1.2.1 (nth s1.2.2 s1.1))))) else none) else none) else none) else none) else none) else none) else none) else none) else (some (.inr s1.2.2)))) big (0, (IntKind.wrap .i64 ((x0.length : Int) - 1)), x0))
theorem slices_Reverse_s0_ok {x0 : List Int} {r : (List Int)} (h : slices_Reverse_s0 x0 = some r) : SC Tryd.prog 108 [.vc 0] [vecL (encI .u8) 1 5 x0] (.tup []) [vecL (encI .u8) 1 5 r] := by
 refine kFn (fn := Tryd.f108) (fun F hFn hFH hFD => ?_)
 unfold slices_Reverse_s0 at h
 refine kSR ?_
 refine kC 5 [0,2,3] ?_
 refine kEN ?_
 refine kb 0 ?_
 refine kl (fun (s1 : Int × Int × (List Int)) => ([(0, .vc 0), (2, .int .i64 s1.1), (3, .int .i64 s1.2.1)], [vecL (encI .u8) 1 5 s1.2.2])) h [0, 2, 3] (fun s1 x29 hs28 => ?_)
 refine kS ?_
 refine kSR ?_
 refine kC 3 [0,2,3,9] ?_
 refine kEN ?_
 refine kBJ 9 hs28 (fun h31 => ?_) (fun h32 => ?_)
 ·refine kT ?_
  refine kK ?_
  refine PJ.next ?_
  refine kS ?_
  refine kb 1 ?_
  refine J.keep [0, 2, 3] (L2 := [(0, .vc 0), (2, .int .i64 s1.1), (3, .int .i64 s1.2.1)]) (by kernel_rfl) ?_
  refine K.draw (by kernel_rfl) (by kernel_rfl) (by kernel_rfl) (H2 := [vecL (encI .u8) 1 5 s1.2.2]) (by kernel_rfl) (n := 1) (by kernel_rfl) ?_
  refine kD 6 ?_
  obtain ⟨hm, h33⟩ := asrt h31
  refine kQ 20 (.ptr 0 ((s1.2.1 : Int).toNat * 1)) [0] (tr2 := [([], []), ([], []), ([], []), ([], []), ([], []), ([], []), ([1], [])]) hm ?_
  obtain ⟨hm, h34⟩ := asrt h33
  refine RJ.rel (d := (some 21)) (ef := ⟨(((s1.2.2).flatMap (encI .u8)).drop ((s1.2.1 : Int).toNat * 1)).headD .undef, [0], []⟩) (ef' := ⟨.int .u8 (nth s1.2.2 s1.2.1), [0], []⟩) (c := Nat.blt ((s1.2.1 : Int).toNat * 1) (s1.2.2.flatMap (encI .u8)).length) (tr2 := [([], []), ([], []), ([], []), ([], []), ([], []), ([], []), ([1], []), ([0, 1], [])]) (H2 := [vecL (encI .u8) 1 5 s1.2.2]) (by kernel_rfl) (loadv_ok (encI_len .u8) rfl hm) (fun hc => N.load1 (encI_len .u8) (fun _ => rfl) hm) (by kernel_rfl) ?_
  refine kD 2 ?_
  obtain ⟨hm, h35⟩ := asrt h34
  refine kQ 24 (.ptr 0 ((s1.1 : Int).toNat * 1)) [0] (tr2 := [([], []), ([], []), ([], []), ([], []), ([], []), ([], []), ([1], []), ([0, 1], []), ([], []), ([], []), ([1], [])]) hm ?_
  obtain ⟨hm, h36⟩ := asrt h35
  refine RJ.rel (d := (some 25)) (ef := ⟨(((s1.2.2).flatMap (encI .u8)).drop ((s1.1 : Int).toNat * 1)).headD .undef, [0], []⟩) (ef' := ⟨.int .u8 (nth s1.2.2 s1.1), [0], []⟩) (c := Nat.blt ((s1.1 : Int).toNat * 1) (s1.2.2.flatMap (encI .u8)).length) (tr2 := [([], []), ([], []), ([], []), ([], []), ([], []), ([], []), ([1], []), ([0, 1], []), ([], []), ([], []), ([1], []), ([0, 1], [])]) (H2 := [vecL (encI .u8) 1 5 s1.2.2]) (by kernel_rfl) (loadv_ok (encI_len .u8) rfl hm) (fun hc => N.load1 (encI_len .u8) (fun _ => rfl) hm) (by kernel_rfl) ?_
  obtain ⟨hm, h37⟩ := asrt h36
  refine kQ 26 (.ptr 0 ((s1.1 : Int).toNat * 1)) [0] (tr2 := [([], []), ([], []), ([], []), ([], []), ([], []), ([], []), ([1], []), ([0, 1], []), ([], []), ([], []), ([1], []), ([0, 1], []), ([1], [])]) hm ?_
  obtain ⟨hm, h38⟩ := asrt h37
  refine RJ.rel (d := none) (ef := ⟨.undef, [0], [(0, .vec (s1.2.2).length 1 5 (splice ((s1.2.2).flatMap (encI .u8)) ((s1.1 : Int).toNat * 1) ((encI .u8) (nth s1.2.2 s1.2.1))))]⟩) (ef' := ⟨.undef, [0], [(0, vecL (encI .u8) 1 5 (setAt s1.2.2 s1.1 (nth s1.2.2 s1.2.1)))]⟩) (c := Nat.ble (((s1.1 : Int).toNat * 1) + ((encI .u8) (nth s1.2.2 s1.2.1)).length) (s1.2.2.flatMap (encI .u8)).length) (tr2 := [([], []), ([], []), ([], []), ([], []), ([], []), ([], []), ([1], []), ([0, 1], []), ([], []), ([], []), ([1], []), ([0, 1], []), ([1], []), ([0, 1], [0])]) (H2 := [vecL (encI .u8) 1 5 (setAt s1.2.2 s1.1 (nth s1.2.2 s1.2.1))]) (by kernel_rfl) (storev_ok (encI_len .u8) hm) (fun hc => N.store (encI_len .u8) hm) (by kernel_rfl) ?_
  obtain ⟨hm, h39⟩ := asrt h38
  refine kQ 27 (.ptr 0 ((s1.2.1 : Int).toNat * 1)) [0] (tr2 := [([], []), ([], []), ([], []), ([], []), ([], []), ([], []), ([1], []), ([0, 1], []), ([], []), ([], []), ([1], []), ([0, 1], []), ([1], []), ([0, 1], [0]), ([1], [])]) hm ?_
  obtain ⟨hm, h40⟩ := asrt h39
  refine RJ.rel (d := none) (ef := ⟨.undef, [0], [(0, .vec ((setAt s1.2.2 s1.1 (nth s1.2.2 s1.2.1))).length 1 5 (splice (((setAt s1.2.2 s1.1 (nth s1.2.2 s1.2.1))).flatMap (encI .u8)) ((s1.2.1 : Int).toNat * 1) ((encI .u8) (nth s1.2.2 s1.1))))]⟩) (ef' := ⟨.undef, [0], [(0, vecL (encI .u8) 1 5 (setAt (setAt s1.2.2 s1.1 (nth s1.2.2 s1.2.1)) s1.2.1 (nth s1.2.2 s1.1)))]⟩) (c := Nat.ble (((s1.2.1 : Int).toNat * 1) + ((encI .u8) (nth s1.2.2 s1.1)).length) ((setAt s1.2.2 s1.1 (nth s1.2.2 s1.2.1)).flatMap (encI .u8)).length) (tr2 := [([], []), ([], []), ([], []), ([], []), ([], []), ([], []), ([1], []), ([0, 1], []), ([], []), ([], []), ([1], []), ([0, 1], []), ([1], []), ([0, 1], [0]), ([1], []), ([0, 1], [0])]) (H2 := [vecL (encI .u8) 1 5 ((setAt (setAt s1.2.2 s1.1 (nth s1.2.2 s1.2.1)) s1.2.1 (nth s1.2.2 s1.1)))]) (by kernel_rfl) (storev_ok (encI_len .u8) hm) (fun hc => N.store (encI_len .u8) hm) (by kernel_rfl) ?_
  refine kE ?_
  refine PJ.blockNormal ?_
  refine PJ.next ?_
  refine kR ?_
  refine kC 6 [0,2,3] ?_
  refine kE ?_
  obtain rfl := oi h40
  exact kLN [0, 2, 3]
 ·refine kF ?_
  refine K.exit 0 (by kernel_rfl) ?_
  refine PJ.passExit ?_
  obtain rfl := oi h32
  refine PJ.loopOut (fun e => nomatch e) (fun he42 => ?_)
  have h41 := congrArg some he42
  refine PJ.blockOut ?_
  obtain rfl := oi h41
  exact K.retV (H0 := [vecL (encI .u8) 1 5 x0]) [0] (.inl rfl) hFn hFH hFD (by kernel_rfl) (v1 := .tup []) (by kernel_rfl) (by kernel_rfl) (by kernel_rfl) (by decide) (by kernel_rfl) (by kernel_rfl) (by kernel_rfl) (by kernel_rfl) (by kernel_rfl)
def oper_spell (x0 : Int) : Option (List Int) :=
 (Option.bind (loopN (fun (s27 : Int × (List Int)) => (bif (decide (s27.1 > 0)) then (bif room (s27.2.length + (([(IntKind.wrap .u8 (Int.tmod s27.1 10))] : List Int)).length) then (some (.inl ((IntKind.wrap .i64 (Int.tdiv s27.1 10)), (s27.2 ++ (([(IntKind.wrap .u8 (Int.tmod s27.1 10))] : List Int)))))) else none) else (some (.inr s27.2)))) big (x0, ([] : List Int))) fun (s22 : (List Int)) => (Option.bind (slices_Reverse_s0 s22) fun y48 => (some y48)))
theorem oper_spell_ok {x0 : Int} {r : List Int} (h : oper_spell x0 = some r) : SC Tryd.prog 98 [.int .i64 x0] [] (lsv (encI .u8) 1 r) [] := by
 refine kFn (fn := Tryd.f98) (fun F hFn hFH hFD => ?_)
 unfold oper_spell at h
 refine kSR ?_
 refine kC 1 [0,2] ?_
 refine kEN ?_
 refine kSR ?_
 refine kC 1 [0,2,3] ?_
 refine kEN ?_
 obtain ⟨s22, hy24, h26⟩ := bindS h
 refine K.cutN (by kernel_rfl) (fun (s22 : (List Int)) => ([(2, .nl), (3, .vc 0)], [vecL (encI .u8) 1 5 s22])) s22 ?_ ?_
 ·refine kb 0 ?_
  refine J.wk (Wk.viv 3 1 5 (by kernel_rfl)) ?_
  refine kl (fun (s27 : Int × (List Int)) => ([(0, .int .i64 s27.1), (2, .nl), (3, .vc 0)], [vecL (encI .u8) 1 5 s27.2])) hy24 [0, 2, 3] (fun s27 x41 hs40 => ?_)
  refine kS ?_
  refine kSR ?_
  refine kC 2 [0,2,3,5] ?_
  refine kEN ?_
  refine kBJ 5 hs40 (fun h43 => ?_) (fun h44 => ?_)
  ·refine kT ?_
   refine kK ?_
   refine PJ.next ?_
   refine kS ?_
   refine kb 1 ?_
   refine kR ?_
   refine kC 5 [0,2,3,8,12] ?_
   obtain ⟨hm, h45⟩ := asrt h43
   refine RJ.rel (d := (some 13)) (ef := ⟨.vc 2, [0, 1], [(0, .gone), (2, .vec (s27.2.length + (([(IntKind.wrap .u8 (Int.tmod s27.1 10))] : List Int)).length) 1 5 (s27.2.flatMap (encI .u8) ++ (([(IntKind.wrap .u8 (Int.tmod s27.1 10))] : List Int)).flatMap (encI .u8)))]⟩) (ef' := ⟨.vc 2, [0, 1], [(0, .gone), (2, vecL (encI .u8) 1 5 (s27.2 ++ (([(IntKind.wrap .u8 (Int.tmod s27.1 10))] : List Int))))]⟩) (c := roomB (s27.2.length + (([(IntKind.wrap .u8 (Int.tmod s27.1 10))] : List Int)).length)) (tr2 := []) (H2 := [.gone, vecL (encI .u8) 1 5 (([(IntKind.wrap .u8 (Int.tmod s27.1 10))] : List Int)), vecL (encI .u8) 1 5 ((s27.2 ++ (([(IntKind.wrap .u8 (Int.tmod s27.1 10))] : List Int))))]) (by kernel_rfl) (roomB_of_room hm) (fun hc => N.app) (by kernel_rfl) ?_
   refine kC 1 [0,2,3] ?_
   refine kE ?_
   refine PJ.blockNormal ?_
   refine PJ.next ?_
   refine kR ?_
   refine kC 3 [0,2,3] ?_
   refine kE ?_
   obtain rfl := oi h45
   refine kW (L2 := [(0, .int .i64 (IntKind.wrap .i64 (Int.tdiv s27.1 10))), (2, .nl), (3, .vc 0)]) (H2 := [vecL (encI .u8) 1 5 ((s27.2 ++ (([(IntKind.wrap .u8 (Int.tmod s27.1 10))] : List Int))))]) hFH hFD [2] ?_
   exact kLN [0, 2, 3]
  ·refine kF ?_
   refine K.exit 0 (by kernel_rfl) ?_
   refine PJ.passExit ?_
   obtain rfl := oi h44
   refine PJ.loopOut (fun e => nomatch e) (fun he47 => ?_)
   have h46 := congrArg some he47
   refine PJ.blockOut ?_
   obtain rfl := oi h46
   exact kN [2, 3]
 ·refine kSR ?_
  refine kC 1 [2,3,14] ?_
  obtain ⟨y48, hy49, h50⟩ := bindS h26
  refine kCG (some 15) (args := [.vc 0]) (v := .tup []) (H2 := [vecL (encI .u8) 1 5 y48]) [0] (slices_Reverse_s0_ok hy49) ?_
  refine kEN ?_
  refine kSR ?_
  refine kC 2 [2] ?_
  refine kEN ?_
  refine kX ?_
  obtain rfl := oi h50
  refine PJ.wk (Wk.freeze 0 (n := y48.length) (k := 1) (e := 5) (cs := y48.flatMap (encI .u8)) (by kernel_rfl)) ?_
  exact kZ hFn hFH hFD
def oper_asked__long (x0 : St111) : Option ((List Int) × Bool) :=
 (Option.bind (oper_spell (x0.Oper_.F_.length : Int)) fun y1 => (some (y1, true)))
theorem oper_asked__long_ok {x0 : St111} {r : (List Int) × Bool} (h : oper_asked__long x0 = some r) : SC Tryd.prog 85 [.agg (encSt111 x0)] [] (.tup [lsv (encI .u8) 1 r.1, .bool r.2]) [] := by
 refine kFn (fn := Tryd.f85) (fun F hFn hFH hFD => ?_)
 unfold oper_asked__long at h
 refine kSR ?_
 refine kC 3 [1,2,3] ?_
 refine kEN ?_
 refine kSR ?_
 refine kC 4 [2,3,7] ?_
 obtain ⟨y1, hy2, h3⟩ := bindS h
 refine kA 8 (oper_spell_ok hy2) ?_
 refine kC 2 [2,3] ?_
 refine kEN ?_
 refine kX ?_
 obtain rfl := oi h3
 exact kZ hFn hFH hFD
def oper_asked__short (x0 : St111) : Option ((List Int) × Bool) :=
 (Option.bind (oper_spell x0.Oper_.W_) fun y1 => (some (y1, true)))
theorem oper_asked__short_ok {x0 : St111} {r : (List Int) × Bool} (h : oper_asked__short x0 = some r) : SC Tryd.prog 86 [.agg (encSt111 x0)] [] (.tup [lsv (encI .u8) 1 r.1, .bool r.2]) [] := by
 refine kFn (fn := Tryd.f86) (fun F hFn hFH hFD => ?_)
 unfold oper_asked__short at h
 refine kSR ?_
 refine kC 3 [1,2,3] ?_
 refine kEN ?_
 refine kSR ?_
 refine kC 3 [2,3,6] ?_
 obtain ⟨y1, hy2, h3⟩ := bindS h
 refine kA 7 (oper_spell_ok hy2) ?_
 refine kC 2 [2,3] ?_
 refine kEN ?_
 refine kX ?_
 obtain rfl := oi h3
 exact kZ hFn hFH hFD
def oper_strip (x0 : List Int) : Option (List Int) :=
 (Option.bind (loopN (fun (s141 : (List Int)) => (Option.bind (Option.bind (bif (decide ((s141.length : Int) > 0)) then (bif inR 0 s141.length then (some ((decide ((nth s141 0) = 0)))) else none) else (some false)) fun (s260 : Bool) => (bif s260 then (some (.inl ())) else (some (.inr (.inr s141))))) (joinX fun (s251 : Unit) => (bif inS 1 (s141.length : Int) s141.length then (some (.inl (cut s141 1 (s141.length : Int)))) else none)))) big x0) fun (s136 : (List Int)) => (Option.bind (slices_Clone s136) fun y276 => (some y276)))
theorem oper_strip_ok {x0 : List Int} {r : List Int} (h : oper_strip x0 = some r) : SC Tryd.prog 90 [lsv (encI .u8) 1 x0] [] (lsv (encI .u8) 1 r) [] := by
 refine kFn (fn := Tryd.f90) (fun F hFn hFH hFD => ?_)
 unfold oper_strip at h
 refine kSR ?_
 refine kC 1 [0,2] ?_
 refine kEN ?_
 obtain ⟨s136, hy138, h140⟩ := bindS h
 refine K.cutN (by kernel_rfl) (fun (s136 : (List Int)) => ([(0, lsv (encI .u8) 1 s136), (2, .nl)], [])) s136 ?_ ?_
 ·refine kb 0 ?_
  refine kl (fun (s141 : (List Int)) => ([(0, lsv (encI .u8) 1 s141), (2, .nl)], [])) hy138 [0, 2] (fun s141 x231 hs230 => ?_)
  obtain ⟨y252, hy253, h254⟩ := bindS hs230
  refine K.cutX (by kernel_rfl) (fun (s251 : Unit) => ([(0, lsv (encI .u8) 1 s141), (2, .nl)], [])) y252 ?_ (fun s251 hs => ?_)
  ·obtain ⟨s260, hy262, h264⟩ := bindS hy253
   refine K.cutN (by kernel_rfl) (fun (s260 : Bool) => ([(0, lsv (encI .u8) 1 s141), (2, .nl), (11, .bool s260)], [])) s260 ?_ ?_
   ·refine kR ?_
    refine kC 4 [0,2,6] ?_
    refine kB 6 hy262 (fun h266 => ?_) (fun h267 => ?_)
    ·refine kC 1 [0,2,6,7] ?_
     obtain ⟨hm, h268⟩ := asrt h266
     refine kI 8 (encI_len .u8) hm ?_
     refine kC 3 [0,2,11] ?_
     refine kE ?_
     obtain rfl := oi h268
     exact kN [0, 2, 11]
    ·refine kC 5 [0,2,11] ?_
     refine kE ?_
     obtain rfl := oi h267
     exact kN [0, 2, 11]
   ·refine kBJ 11 h264 (fun h270 => ?_) (fun h271 => ?_)
    ·refine kT ?_
     refine kK ?_
     obtain rfl := oi h270
     exact kXl [0, 2]
    ·refine kF ?_
     refine K.exit 0 (by kernel_rfl) ?_
     obtain rfl := oi h271
     have h272 := joinX_inr h254
     refine PJ.cutXr (fun e => nomatch e) ?_
     obtain rfl := oi h272
     refine PJ.loopOut (fun e => nomatch e) (fun he274 => ?_)
     have h273 := congrArg some he274
     refine PJ.blockOut ?_
     obtain rfl := oi h273
     exact kN [0, 2]
  ·subst hs
   have h255 := joinX_inl h254
   refine kb 1 ?_
   refine kR ?_
   refine kC 1 [0,2,12] ?_
   obtain ⟨hm, h275⟩ := asrt h255
   refine RJ.rel (d := (some 13)) (ef := ⟨.lst (((s141.length : Int) : Int).toNat - (1 : Int).toNat) 1 (((s141.flatMap (encI .u8)).take (((s141.length : Int) : Int).toNat * 1)).drop ((1 : Int).toNat * 1)), [], []⟩) (ef' := ⟨.lst (cut s141 1 (s141.length : Int)).length 1 ((cut s141 1 (s141.length : Int)).flatMap (encI .u8)), [], []⟩) (c := inS 1 (s141.length : Int) s141.length) (tr2 := []) (H2 := []) (by kernel_rfl) hm (fun hc => N.slice (encI_len .u8) hc) (by kernel_rfl) ?_
   refine kC 1 [0,2] ?_
   refine kE ?_
   refine PJ.blockNormal ?_
   obtain rfl := oi h275
   exact kLN [0, 2]
 ·refine kSR ?_
  refine kC 1 [2,14] ?_
  obtain ⟨y276, hy277, h278⟩ := bindS h140
  refine kA 15 (slices_Clone_ok hy277) ?_
  refine kC 1 [2] ?_
  refine kEN ?_
  refine kX ?_
  obtain rfl := oi h278
  exact kZ hFn hFH hFD
def oper_asked__part (x0 : St111) : Option ((List Int) × Bool) :=
 (Option.bind (oper_strip x0.Oper_.F_) fun y1 => (some (y1, true)))
theorem oper_asked__part_ok {x0 : St111} {r : (List Int) × Bool} (h : oper_asked__part x0 = some r) : SC Tryd.prog 87 [.agg (encSt111 x0)] [] (.tup [lsv (encI .u8) 1 r.1, .bool r.2]) [] := by
 refine kFn (fn := Tryd.f87) (fun F hFn hFH hFD => ?_)
 unfold oper_asked__part at h
 refine kSR ?_
 refine kC 3 [1,2,3] ?_
 refine kEN ?_
 refine kSR ?_
 refine kC 3 [2,3,6] ?_
 obtain ⟨y1, hy2, h3⟩ := bindS h
 refine kA 7 (oper_strip_ok hy2) ?_
 refine kC 2 [2,3] ?_
 refine kEN ?_
 refine kX ?_
 obtain rfl := oi h3
 exact kZ hFn hFH hFD
def oper_asked__cut (x0 : St111) : Option ((List Int) × Bool) :=
 (bif inS 0 x0.Oper_.W_ x0.Oper_.F_.length then (Option.bind (oper_strip (cut x0.Oper_.F_ 0 x0.Oper_.W_)) fun y2 => (some (y2, true))) else none)
theorem oper_asked__cut_ok {x0 : St111} {r : (List Int) × Bool} (h : oper_asked__cut x0 = some r) : SC Tryd.prog 88 [.agg (encSt111 x0)] [] (.tup [lsv (encI .u8) 1 r.1, .bool r.2]) [] := by
 refine kFn (fn := Tryd.f88) (fun F hFn hFH hFD => ?_)
 unfold oper_asked__cut at h
 refine kSR ?_
 refine kC 3 [1,2,3] ?_
 refine kEN ?_
 refine kSR ?_
 refine kC 6 [2,3,6,9] ?_
 obtain ⟨hm, h1⟩ := asrt h
 refine RJ.rel (d := (some 10)) (ef := ⟨.lst ((x0.Oper_.W_ : Int).toNat - (0 : Int).toNat) 1 (((x0.Oper_.F_.flatMap (encI .u8)).take ((x0.Oper_.W_ : Int).toNat * 1)).drop ((0 : Int).toNat * 1)), [], []⟩) (ef' := ⟨.lst (cut x0.Oper_.F_ 0 x0.Oper_.W_).length 1 ((cut x0.Oper_.F_ 0 x0.Oper_.W_).flatMap (encI .u8)), [], []⟩) (c := inS 0 x0.Oper_.W_ x0.Oper_.F_.length) (tr2 := []) (H2 := [.box (encSt111 x0)]) (by kernel_rfl) hm (fun hc => N.slice (encI_len .u8) hc) (by kernel_rfl) ?_
 obtain ⟨y2, hy3, h4⟩ := bindS h1
 refine kA 11 (oper_strip_ok hy3) ?_
 refine kC 2 [2,3] ?_
 refine kEN ?_
 refine kX ?_
 obtain rfl := oi h4
 exact kZ hFn hFH hFD
def oper_asked__power (x0 : St111) : Option ((List Int) × Bool) :=
 (Option.bind (oper_spell x0.Oper_.C_) fun y1 => (some (y1, true)))
theorem oper_asked__power_ok {x0 : St111} {r : (List Int) × Bool} (h : oper_asked__power x0 = some r) : SC Tryd.prog 89 [.agg (encSt111 x0)] [] (.tup [lsv (encI .u8) 1 r.1, .bool r.2]) [] := by
 refine kFn (fn := Tryd.f89) (fun F hFn hFH hFD => ?_)
 unfold oper_asked__power at h
 refine kSR ?_
 refine kC 3 [1,2,3] ?_
 refine kEN ?_
 refine kSR ?_
 refine kC 3 [2,3,6] ?_
 obtain ⟨y1, hy2, h3⟩ := bindS h
 refine kA 7 (oper_spell_ok hy2) ?_
 refine kC 2 [2,3] ?_
 refine kEN ?_
 refine kX ?_
 obtain rfl := oi h3
 exact kZ hFn hFH hFD
def oper_Operand (x0 : St41) (x1 : Int) : Option ((List Int) × Bool) :=
 (Option.bind (oper_Right x0) fun y1 => (bif (!y1) then (some (([] : List Int), false)) else (Option.bind (oper_asked__operands_s0 (⟨x0⟩ : St111)) fun y7 => (bif (decide (x1 = 110)) then (Option.bind (oper_asked__number (⟨x0⟩ : St111)) fun y14 => (some (y14.1, y14.2))) else (bif (decide (x1 = 105)) then (Option.bind (oper_asked__whole (⟨x0⟩ : St111)) fun y21 => (some (y21.1, y21.2))) else (bif (decide (x1 = 118)) then (Option.bind (oper_asked__long (⟨x0⟩ : St111)) fun y28 => (some (y28.1, y28.2))) else (bif (decide (x1 = 119)) then (Option.bind (oper_asked__short (⟨x0⟩ : St111)) fun y35 => (some (y35.1, y35.2))) else (bif (decide (x1 = 102)) then (Option.bind (oper_asked__part (⟨x0⟩ : St111)) fun y42 => (some (y42.1, y42.2))) else (bif (decide (x1 = 116)) then (Option.bind (oper_asked__cut (⟨x0⟩ : St111)) fun y49 => (some (y49.1, y49.2))) else (bif (decide (x1 = 99)) then (Option.bind (oper_asked__power (⟨x0⟩ : St111)) fun y56 => (some (y56.1, y56.2))) else (bif (decide (x1 = 101)) then (Option.bind (oper_asked__power (⟨x0⟩ : St111)) fun y63 => (some (y63.1, y63.2))) else (some (([] : List Int), false)))))))))))))
theorem oper_Operand_ok {x0 : St41} {x1 : Int} {r : (List Int) × Bool} (h : oper_Operand x0 x1 = some r) : SC Tryd.prog 62 [.agg (encSt41 x0), .int .u8 x1] [] (.tup [lsv (encI .u8) 1 r.1, .bool r.2]) [] := by
 refine kFn (fn := Tryd.f62) (fun F hFn hFH hFD => ?_)
 unfold oper_Operand at h
 refine kSR ?_
 refine kC 3 [1,2,4,5] ?_
 refine kEN ?_
 refine kS ?_
 refine kSR ?_
 refine kC 1 [1,2,4,5,8] ?_
 obtain ⟨y1, hy2, h3⟩ := bindS h
 refine kA 9 (oper_Right_ok hy2) ?_
 refine kC 1 [1,2,4,5,10] ?_
 refine kEN ?_
 refine kBJ 10 h3 (fun h5 => ?_) (fun h6 => ?_)
 ·refine kT ?_
  refine kSR ?_
  refine kC 2 [1,2,4,5] ?_
  refine kEN ?_
  refine kX ?_
  refine PJ.passRet ?_
  obtain rfl := oi h5
  refine PJ.res (v1 := .tup [.nl, .bool false]) (Le.tup (.cons (Le.nl _) (.cons (Le.refl _) .nil))) ?_
  exact kZ hFn hFH hFD
 ·refine kF ?_
  refine kK ?_
  refine PJ.next ?_
  refine kSR ?_
  refine kC 2 [1,4,5,13] ?_
  obtain ⟨y7, hy8, h9⟩ := bindS h6
  refine kCG (some 14) (args := [.agg (encSt41 x0)]) (v := .mp 1) (H2 := [.box (encSt41 x0), .map [(.int .u8 110, .fn (.func 83) [.agg [lsv (encI .u8) 1 ((⟨x0⟩ : St111).Oper_.I_), lsv (encI .u8) 1 ((⟨x0⟩ : St111).Oper_.F_), .int .i64 ((⟨x0⟩ : St111).Oper_.W_), .int .i64 ((⟨x0⟩ : St111).Oper_.C_)]] []), (.int .u8 105, .fn (.func 84) [.agg [lsv (encI .u8) 1 ((⟨x0⟩ : St111).Oper_.I_), lsv (encI .u8) 1 ((⟨x0⟩ : St111).Oper_.F_), .int .i64 ((⟨x0⟩ : St111).Oper_.W_), .int .i64 ((⟨x0⟩ : St111).Oper_.C_)]] []), (.int .u8 118, .fn (.func 85) [.agg [lsv (encI .u8) 1 ((⟨x0⟩ : St111).Oper_.I_), lsv (encI .u8) 1 ((⟨x0⟩ : St111).Oper_.F_), .int .i64 ((⟨x0⟩ : St111).Oper_.W_), .int .i64 ((⟨x0⟩ : St111).Oper_.C_)]] []), (.int .u8 119, .fn (.func 86) [.agg [lsv (encI .u8) 1 ((⟨x0⟩ : St111).Oper_.I_), lsv (encI .u8) 1 ((⟨x0⟩ : St111).Oper_.F_), .int .i64 ((⟨x0⟩ : St111).Oper_.W_), .int .i64 ((⟨x0⟩ : St111).Oper_.C_)]] []), (.int .u8 102, .fn (.func 87) [.agg [lsv (encI .u8) 1 ((⟨x0⟩ : St111).Oper_.I_), lsv (encI .u8) 1 ((⟨x0⟩ : St111).Oper_.F_), .int .i64 ((⟨x0⟩ : St111).Oper_.W_), .int .i64 ((⟨x0⟩ : St111).Oper_.C_)]] []), (.int .u8 116, .fn (.func 88) [.agg [lsv (encI .u8) 1 ((⟨x0⟩ : St111).Oper_.I_), lsv (encI .u8) 1 ((⟨x0⟩ : St111).Oper_.F_), .int .i64 ((⟨x0⟩ : St111).Oper_.W_), .int .i64 ((⟨x0⟩ : St111).Oper_.C_)]] []), (.int .u8 99, .fn (.func 89) [.agg [lsv (encI .u8) 1 ((⟨x0⟩ : St111).Oper_.I_), lsv (encI .u8) 1 ((⟨x0⟩ : St111).Oper_.F_), .int .i64 ((⟨x0⟩ : St111).Oper_.W_), .int .i64 ((⟨x0⟩ : St111).Oper_.C_)]] []), (.int .u8 101, .fn (.func 89) [.agg [lsv (encI .u8) 1 ((⟨x0⟩ : St111).Oper_.I_), lsv (encI .u8) 1 ((⟨x0⟩ : St111).Oper_.F_), .int .i64 ((⟨x0⟩ : St111).Oper_.W_), .int .i64 ((⟨x0⟩ : St111).Oper_.C_)]] [])]]) [] (oper_asked__operands_s0_ok hy8) ?_
  refine kC 1 [4,5,14,15] ?_
  cases hb10 : (decide (x1 = 110))
  ·have h12 := condF hb10 h9
   have hn13 := of_decide_eq_false hb10
   cases hb17 : (decide (x1 = 105))
   ·have h19 := condF hb17 h12
    have hn20 := of_decide_eq_false hb17
    cases hb24 : (decide (x1 = 118))
    ·have h26 := condF hb24 h19
     have hn27 := of_decide_eq_false hb24
     cases hb31 : (decide (x1 = 119))
     ·have h33 := condF hb31 h26
      have hn34 := of_decide_eq_false hb31
      cases hb38 : (decide (x1 = 102))
      ·have h40 := condF hb38 h33
       have hn41 := of_decide_eq_false hb38
       cases hb45 : (decide (x1 = 116))
       ·have h47 := condF hb45 h40
        have hn48 := of_decide_eq_false hb45
        cases hb52 : (decide (x1 = 99))
        ·have h54 := condF hb52 h47
         have hn55 := of_decide_eq_false hb52
         cases hb59 : (decide (x1 = 101))
         ·have h61 := condF hb59 h54
          have hn62 := of_decide_eq_false hb59
          refine RJ.look (none) (d := some 16) (ef := ⟨.tup [.undef, .bool false], [1], []⟩) (c := missC (.int .u8 x1) [(.int .u8 110, .fn (.func 83) [.agg [lsv (encI .u8) 1 ((⟨x0⟩ : St111).Oper_.I_), lsv (encI .u8) 1 ((⟨x0⟩ : St111).Oper_.F_), .int .i64 ((⟨x0⟩ : St111).Oper_.W_), .int .i64 ((⟨x0⟩ : St111).Oper_.C_)]] []), (.int .u8 105, .fn (.func 84) [.agg [lsv (encI .u8) 1 ((⟨x0⟩ : St111).Oper_.I_), lsv (encI .u8) 1 ((⟨x0⟩ : St111).Oper_.F_), .int .i64 ((⟨x0⟩ : St111).Oper_.W_), .int .i64 ((⟨x0⟩ : St111).Oper_.C_)]] []), (.int .u8 118, .fn (.func 85) [.agg [lsv (encI .u8) 1 ((⟨x0⟩ : St111).Oper_.I_), lsv (encI .u8) 1 ((⟨x0⟩ : St111).Oper_.F_), .int .i64 ((⟨x0⟩ : St111).Oper_.W_), .int .i64 ((⟨x0⟩ : St111).Oper_.C_)]] []), (.int .u8 119, .fn (.func 86) [.agg [lsv (encI .u8) 1 ((⟨x0⟩ : St111).Oper_.I_), lsv (encI .u8) 1 ((⟨x0⟩ : St111).Oper_.F_), .int .i64 ((⟨x0⟩ : St111).Oper_.W_), .int .i64 ((⟨x0⟩ : St111).Oper_.C_)]] []), (.int .u8 102, .fn (.func 87) [.agg [lsv (encI .u8) 1 ((⟨x0⟩ : St111).Oper_.I_), lsv (encI .u8) 1 ((⟨x0⟩ : St111).Oper_.F_), .int .i64 ((⟨x0⟩ : St111).Oper_.W_), .int .i64 ((⟨x0⟩ : St111).Oper_.C_)]] []), (.int .u8 116, .fn (.func 88) [.agg [lsv (encI .u8) 1 ((⟨x0⟩ : St111).Oper_.I_), lsv (encI .u8) 1 ((⟨x0⟩ : St111).Oper_.F_), .int .i64 ((⟨x0⟩ : St111).Oper_.W_), .int .i64 ((⟨x0⟩ : St111).Oper_.C_)]] []), (.int .u8 99, .fn (.func 89) [.agg [lsv (encI .u8) 1 ((⟨x0⟩ : St111).Oper_.I_), lsv (encI .u8) 1 ((⟨x0⟩ : St111).Oper_.F_), .int .i64 ((⟨x0⟩ : St111).Oper_.W_), .int .i64 ((⟨x0⟩ : St111).Oper_.C_)]] []), (.int .u8 101, .fn (.func 89) [.agg [lsv (encI .u8) 1 ((⟨x0⟩ : St111).Oper_.I_), lsv (encI .u8) 1 ((⟨x0⟩ : St111).Oper_.F_), .int .i64 ((⟨x0⟩ : St111).Oper_.W_), .int .i64 ((⟨x0⟩ : St111).Oper_.C_)]] [])]) (tr2 := []) (by kernel_rfl) (by simp [hitC, missC, sameB, sameE, hn13, hn20, hn27, hn34, hn41, hn48, hn55, hn62]) ?_
          refine kC 5 [4,5,7] ?_
          refine kEN ?_
          refine kS ?_
          refine kSR ?_
          refine kC 2 [4,5,20] ?_
          refine kEN ?_
          refine kT ?_
          refine kSR ?_
          refine kC 2 [4,5] ?_
          refine kEN ?_
          refine kX ?_
          refine PJ.passRet ?_
          obtain rfl := oi h61
          refine PJ.res (v1 := .tup [.nl, .bool false]) (Le.tup (.cons (Le.nl _) (.cons (Le.refl _) .nil))) ?_
          exact kZ hFn hFH hFD
         ·have h60 := condT hb59 h54
          have hn62 := of_decide_eq_true hb59
          refine RJ.look (some 7) (d := some 16) (ef := ⟨.tup [.fn (.func 89) [.agg [lsv (encI .u8) 1 ((⟨x0⟩ : St111).Oper_.I_), lsv (encI .u8) 1 ((⟨x0⟩ : St111).Oper_.F_), .int .i64 ((⟨x0⟩ : St111).Oper_.W_), .int .i64 ((⟨x0⟩ : St111).Oper_.C_)]] [], .bool true], [1], []⟩) (c := hitC (.int .u8 x1) [(.int .u8 110, .fn (.func 83) [.agg [lsv (encI .u8) 1 ((⟨x0⟩ : St111).Oper_.I_), lsv (encI .u8) 1 ((⟨x0⟩ : St111).Oper_.F_), .int .i64 ((⟨x0⟩ : St111).Oper_.W_), .int .i64 ((⟨x0⟩ : St111).Oper_.C_)]] []), (.int .u8 105, .fn (.func 84) [.agg [lsv (encI .u8) 1 ((⟨x0⟩ : St111).Oper_.I_), lsv (encI .u8) 1 ((⟨x0⟩ : St111).Oper_.F_), .int .i64 ((⟨x0⟩ : St111).Oper_.W_), .int .i64 ((⟨x0⟩ : St111).Oper_.C_)]] []), (.int .u8 118, .fn (.func 85) [.agg [lsv (encI .u8) 1 ((⟨x0⟩ : St111).Oper_.I_), lsv (encI .u8) 1 ((⟨x0⟩ : St111).Oper_.F_), .int .i64 ((⟨x0⟩ : St111).Oper_.W_), .int .i64 ((⟨x0⟩ : St111).Oper_.C_)]] []), (.int .u8 119, .fn (.func 86) [.agg [lsv (encI .u8) 1 ((⟨x0⟩ : St111).Oper_.I_), lsv (encI .u8) 1 ((⟨x0⟩ : St111).Oper_.F_), .int .i64 ((⟨x0⟩ : St111).Oper_.W_), .int .i64 ((⟨x0⟩ : St111).Oper_.C_)]] []), (.int .u8 102, .fn (.func 87) [.agg [lsv (encI .u8) 1 ((⟨x0⟩ : St111).Oper_.I_), lsv (encI .u8) 1 ((⟨x0⟩ : St111).Oper_.F_), .int .i64 ((⟨x0⟩ : St111).Oper_.W_), .int .i64 ((⟨x0⟩ : St111).Oper_.C_)]] []), (.int .u8 116, .fn (.func 88) [.agg [lsv (encI .u8) 1 ((⟨x0⟩ : St111).Oper_.I_), lsv (encI .u8) 1 ((⟨x0⟩ : St111).Oper_.F_), .int .i64 ((⟨x0⟩ : St111).Oper_.W_), .int .i64 ((⟨x0⟩ : St111).Oper_.C_)]] []), (.int .u8 99, .fn (.func 89) [.agg [lsv (encI .u8) 1 ((⟨x0⟩ : St111).Oper_.I_), lsv (encI .u8) 1 ((⟨x0⟩ : St111).Oper_.F_), .int .i64 ((⟨x0⟩ : St111).Oper_.W_), .int .i64 ((⟨x0⟩ : St111).Oper_.C_)]] []), (.int .u8 101, .fn (.func 89) [.agg [lsv (encI .u8) 1 ((⟨x0⟩ : St111).Oper_.I_), lsv (encI .u8) 1 ((⟨x0⟩ : St111).Oper_.F_), .int .i64 ((⟨x0⟩ : St111).Oper_.W_), .int .i64 ((⟨x0⟩ : St111).Oper_.C_)]] [])] 7) (tr2 := []) (by kernel_rfl) (by simp [hitC, missC, sameB, sameE, hn13, hn20, hn27, hn34, hn41, hn48, hn55, hn62]) ?_
          refine kC 5 [4,5,6,7] ?_
          refine kEN ?_
          refine kS ?_
          refine kSR ?_
          refine kC 2 [4,5,6,20] ?_
          refine kEN ?_
          refine kF ?_
          refine kK ?_
          refine PJ.next ?_
          refine kSR ?_
          refine kC 1 [4,5,21] ?_
          obtain ⟨y63, hy64, h65⟩ := bindS h60
          refine kA 22 (oper_asked__power_ok hy64) ?_
          refine RJ.seg 4 [4, 5] (L2 := [(4, lsv (encI .u8) 1 y63.1), (5, .bool y63.2)]) (H2 := [.box (encSt41 x0), .map [(.int .u8 110, .fn (.func 83) [.agg [lsv (encI .u8) 1 ((⟨x0⟩ : St111).Oper_.I_), lsv (encI .u8) 1 ((⟨x0⟩ : St111).Oper_.F_), .int .i64 ((⟨x0⟩ : St111).Oper_.W_), .int .i64 ((⟨x0⟩ : St111).Oper_.C_)]] []), (.int .u8 105, .fn (.func 84) [.agg [lsv (encI .u8) 1 ((⟨x0⟩ : St111).Oper_.I_), lsv (encI .u8) 1 ((⟨x0⟩ : St111).Oper_.F_), .int .i64 ((⟨x0⟩ : St111).Oper_.W_), .int .i64 ((⟨x0⟩ : St111).Oper_.C_)]] []), (.int .u8 118, .fn (.func 85) [.agg [lsv (encI .u8) 1 ((⟨x0⟩ : St111).Oper_.I_), lsv (encI .u8) 1 ((⟨x0⟩ : St111).Oper_.F_), .int .i64 ((⟨x0⟩ : St111).Oper_.W_), .int .i64 ((⟨x0⟩ : St111).Oper_.C_)]] []), (.int .u8 119, .fn (.func 86) [.agg [lsv (encI .u8) 1 ((⟨x0⟩ : St111).Oper_.I_), lsv (encI .u8) 1 ((⟨x0⟩ : St111).Oper_.F_), .int .i64 ((⟨x0⟩ : St111).Oper_.W_), .int .i64 ((⟨x0⟩ : St111).Oper_.C_)]] []), (.int .u8 102, .fn (.func 87) [.agg [lsv (encI .u8) 1 ((⟨x0⟩ : St111).Oper_.I_), lsv (encI .u8) 1 ((⟨x0⟩ : St111).Oper_.F_), .int .i64 ((⟨x0⟩ : St111).Oper_.W_), .int .i64 ((⟨x0⟩ : St111).Oper_.C_)]] []), (.int .u8 116, .fn (.func 88) [.agg [lsv (encI .u8) 1 ((⟨x0⟩ : St111).Oper_.I_), lsv (encI .u8) 1 ((⟨x0⟩ : St111).Oper_.F_), .int .i64 ((⟨x0⟩ : St111).Oper_.W_), .int .i64 ((⟨x0⟩ : St111).Oper_.C_)]] []), (.int .u8 99, .fn (.func 89) [.agg [lsv (encI .u8) 1 ((⟨x0⟩ : St111).Oper_.I_), lsv (encI .u8) 1 ((⟨x0⟩ : St111).Oper_.F_), .int .i64 ((⟨x0⟩ : St111).Oper_.W_), .int .i64 ((⟨x0⟩ : St111).Oper_.C_)]] []), (.int .u8 101, .fn (.func 89) [.agg [lsv (encI .u8) 1 ((⟨x0⟩ : St111).Oper_.I_), lsv (encI .u8) 1 ((⟨x0⟩ : St111).Oper_.F_), .int .i64 ((⟨x0⟩ : St111).Oper_.W_), .int .i64 ((⟨x0⟩ : St111).Oper_.C_)]] [])]]) (by kernel_rfl) ?_
          refine kEN ?_
          refine kX ?_
          obtain rfl := oi h65
          exact kZ hFn hFH hFD
        ·have h53 := condT hb52 h47
         have hn55 := of_decide_eq_true hb52
         refine RJ.look (some 6) (d := some 16) (ef := ⟨.tup [.fn (.func 89) [.agg [lsv (encI .u8) 1 ((⟨x0⟩ : St111).Oper_.I_), lsv (encI .u8) 1 ((⟨x0⟩ : St111).Oper_.F_), .int .i64 ((⟨x0⟩ : St111).Oper_.W_), .int .i64 ((⟨x0⟩ : St111).Oper_.C_)]] [], .bool true], [1], []⟩) (c := hitC (.int .u8 x1) [(.int .u8 110, .fn (.func 83) [.agg [lsv (encI .u8) 1 ((⟨x0⟩ : St111).Oper_.I_), lsv (encI .u8) 1 ((⟨x0⟩ : St111).Oper_.F_), .int .i64 ((⟨x0⟩ : St111).Oper_.W_), .int .i64 ((⟨x0⟩ : St111).Oper_.C_)]] []), (.int .u8 105, .fn (.func 84) [.agg [lsv (encI .u8) 1 ((⟨x0⟩ : St111).Oper_.I_), lsv (encI .u8) 1 ((⟨x0⟩ : St111).Oper_.F_), .int .i64 ((⟨x0⟩ : St111).Oper_.W_), .int .i64 ((⟨x0⟩ : St111).Oper_.C_)]] []), (.int .u8 118, .fn (.func 85) [.agg [lsv (encI .u8) 1 ((⟨x0⟩ : St111).Oper_.I_), lsv (encI .u8) 1 ((⟨x0⟩ : St111).Oper_.F_), .int .i64 ((⟨x0⟩ : St111).Oper_.W_), .int .i64 ((⟨x0⟩ : St111).Oper_.C_)]] []), (.int .u8 119, .fn (.func 86) [.agg [lsv (encI .u8) 1 ((⟨x0⟩ : St111).Oper_.I_), lsv (encI .u8) 1 ((⟨x0⟩ : St111).Oper_.F_), .int .i64 ((⟨x0⟩ : St111).Oper_.W_), .int .i64 ((⟨x0⟩ : St111).Oper_.C_)]] []), (.int .u8 102, .fn (.func 87) [.agg [lsv (encI .u8) 1 ((⟨x0⟩ : St111).Oper_.I_), lsv (encI .u8) 1 ((⟨x0⟩ : St111).Oper_.F_), .int .i64 ((⟨x0⟩ : St111).Oper_.W_), .int .i64 ((⟨x0⟩ : St111).Oper_.C_)]] []), (.int .u8 116, .fn (.func 88) [.agg [lsv (encI .u8) 1 ((⟨x0⟩ : St111).Oper_.I_), lsv (encI .u8) 1 ((⟨x0⟩ : St111).Oper_.F_), .int .i64 ((⟨x0⟩ : St111).Oper_.W_), .int .i64 ((⟨x0⟩ : St111).Oper_.C_)]] []), (.int .u8 99, .fn (.func 89) [.agg [lsv (encI .u8) 1 ((⟨x0⟩ : St111).Oper_.I_), lsv (encI .u8) 1 ((⟨x0⟩ : St111).Oper_.F_), .int .i64 ((⟨x0⟩ : St111).Oper_.W_), .int .i64 ((⟨x0⟩ : St111).Oper_.C_)]] []), (.int .u8 101, .fn (.func 89) [.agg [lsv (encI .u8) 1 ((⟨x0⟩ : St111).Oper_.I_), lsv (encI .u8) 1 ((⟨x0⟩ : St111).Oper_.F_), .int .i64 ((⟨x0⟩ : St111).Oper_.W_), .int .i64 ((⟨x0⟩ : St111).Oper_.C_)]] [])] 6) (tr2 := []) (by kernel_rfl) (by simp [hitC, missC, sameB, sameE, hn13, hn20, hn27, hn34, hn41, hn48, hn55]) ?_
         refine kC 5 [4,5,6,7] ?_
         refine kEN ?_
         refine kS ?_
         refine kSR ?_
         refine kC 2 [4,5,6,20] ?_
         refine kEN ?_
         refine kF ?_
         refine kK ?_
         refine PJ.next ?_
         refine kSR ?_
         refine kC 1 [4,5,21] ?_
         obtain ⟨y56, hy57, h58⟩ := bindS h53
         refine kA 22 (oper_asked__power_ok hy57) ?_
         refine RJ.seg 4 [4, 5] (L2 := [(4, lsv (encI .u8) 1 y56.1), (5, .bool y56.2)]) (H2 := [.box (encSt41 x0), .map [(.int .u8 110, .fn (.func 83) [.agg [lsv (encI .u8) 1 ((⟨x0⟩ : St111).Oper_.I_), lsv (encI .u8) 1 ((⟨x0⟩ : St111).Oper_.F_), .int .i64 ((⟨x0⟩ : St111).Oper_.W_), .int .i64 ((⟨x0⟩ : St111).Oper_.C_)]] []), (.int .u8 105, .fn (.func 84) [.agg [lsv (encI .u8) 1 ((⟨x0⟩ : St111).Oper_.I_), lsv (encI .u8) 1 ((⟨x0⟩ : St111).Oper_.F_), .int .i64 ((⟨x0⟩ : St111).Oper_.W_), .int .i64 ((⟨x0⟩ : St111).Oper_.C_)]] []), (.int .u8 118, .fn (.func 85) [.agg [lsv (encI .u8) 1 ((⟨x0⟩ : St111).Oper_.I_), lsv (encI .u8) 1 ((⟨x0⟩ : St111).Oper_.F_), .int .i64 ((⟨x0⟩ : St111).Oper_.W_), .int .i64 ((⟨x0⟩ : St111).Oper_.C_)]] []), (.int .u8 119, .fn (.func 86) [.agg [lsv (encI .u8) 1 ((⟨x0⟩ : St111).Oper_.I_), lsv (encI .u8) 1 ((⟨x0⟩ : St111).Oper_.F_), .int .i64 ((⟨x0⟩ : St111).Oper_.W_), .int .i64 ((⟨x0⟩ : St111).Oper_.C_)]] []), (.int .u8 102, .fn (.func 87) [.agg [lsv (encI .u8) 1 ((⟨x0⟩ : St111).Oper_.I_), lsv (encI .u8) 1 ((⟨x0⟩ : St111).Oper_.F_), .int .i64 ((⟨x0⟩ : St111).Oper_.W_), .int .i64 ((⟨x0⟩ : St111).Oper_.C_)]] []), (.int .u8 116, .fn (.func 88) [.agg [lsv (encI .u8) 1 ((⟨x0⟩ : St111).Oper_.I_), lsv (encI .u8) 1 ((⟨x0⟩ : St111).Oper_.F_), .int .i64 ((⟨x0⟩ : St111).Oper_.W_), .int .i64 ((⟨x0⟩ : St111).Oper_.C_)]] []), (.int .u8 99, .fn (.func 89) [.agg [lsv (encI .u8) 1 ((⟨x0⟩ : St111).Oper_.I_), lsv (encI .u8) 1 ((⟨x0⟩ : St111).Oper_.F_), .int .i64 ((⟨x0⟩ : St111).Oper_.W_), .int .i64 ((⟨x0⟩ : St111).Oper_.C_)]] []), (.int .u8 101, .fn (.func 89) [.agg [lsv (encI .u8) 1 ((⟨x0⟩ : St111).Oper_.I_), lsv (encI .u8) 1 ((⟨x0⟩ : St111).Oper_.F_), .int .i64 ((⟨x0⟩ : St111).Oper_.W_), .int .i64 ((⟨x0⟩ : St111).Oper_.C_)]] [])]]) (by kernel_rfl) ?_
         refine kEN ?_
         refine kX ?_
         obtain rfl := oi h58
         exact kZ hFn hFH hFD
       ·have h46 := condT hb45 h40
        have hn48 := of_decide_eq_true hb45
        refine RJ.look (some 5) (d := some 16) (ef := ⟨.tup [.fn (.func 88) [.agg [lsv (encI .u8) 1 ((⟨x0⟩ : St111).Oper_.I_), lsv (encI .u8) 1 ((⟨x0⟩ : St111).Oper_.F_), .int .i64 ((⟨x0⟩ : St111).Oper_.W_), .int .i64 ((⟨x0⟩ : St111).Oper_.C_)]] [], .bool true], [1], []⟩) (c := hitC (.int .u8 x1) [(.int .u8 110, .fn (.func 83) [.agg [lsv (encI .u8) 1 ((⟨x0⟩ : St111).Oper_.I_), lsv (encI .u8) 1 ((⟨x0⟩ : St111).Oper_.F_), .int .i64 ((⟨x0⟩ : St111).Oper_.W_), .int .i64 ((⟨x0⟩ : St111).Oper_.C_)]] []), (.int .u8 105, .fn (.func 84) [.agg [lsv (encI .u8) 1 ((⟨x0⟩ : St111).Oper_.I_), lsv (encI .u8) 1 ((⟨x0⟩ : St111).Oper_.F_), .int .i64 ((⟨x0⟩ : St111).Oper_.W_), .int .i64 ((⟨x0⟩ : St111).Oper_.C_)]] []), (.int .u8 118, .fn (.func 85) [.agg [lsv (encI .u8) 1 ((⟨x0⟩ : St111).Oper_.I_), lsv (encI .u8) 1 ((⟨x0⟩ : St111).Oper_.F_), .int .i64 ((⟨x0⟩ : St111).Oper_.W_), .int .i64 ((⟨x0⟩ : St111).Oper_.C_)]] []), (.int .u8 119, .fn (.func 86) [.agg [lsv (encI .u8) 1 ((⟨x0⟩ : St111).Oper_.I_), lsv (encI .u8) 1 ((⟨x0⟩ : St111).Oper_.F_), .int .i64 ((⟨x0⟩ : St111).Oper_.W_), .int .i64 ((⟨x0⟩ : St111).Oper_.C_)]] []), (.int .u8 102, .fn (.func 87) [.agg [lsv (encI .u8) 1 ((⟨x0⟩ : St111).Oper_.I_), lsv (encI .u8) 1 ((⟨x0⟩ : St111).Oper_.F_), .int .i64 ((⟨x0⟩ : St111).Oper_.W_), .int .i64 ((⟨x0⟩ : St111).Oper_.C_)]] []), (.int .u8 116, .fn (.func 88) [.agg [lsv (encI .u8) 1 ((⟨x0⟩ : St111).Oper_.I_), lsv (encI .u8) 1 ((⟨x0⟩ : St111).Oper_.F_), .int .i64 ((⟨x0⟩ : St111).Oper_.W_), .int .i64 ((⟨x0⟩ : St111).Oper_.C_)]] []), (.int .u8 99, .fn (.func 89) [.agg [lsv (encI .u8) 1 ((⟨x0⟩ : St111).Oper_.I_), lsv (encI .u8) 1 ((⟨x0⟩ : St111).Oper_.F_), .int .i64 ((⟨x0⟩ : St111).Oper_.W_), .int .i64 ((⟨x0⟩ : St111).Oper_.C_)]] []), (.int .u8 101, .fn (.func 89) [.agg [lsv (encI .u8) 1 ((⟨x0⟩ : St111).Oper_.I_), lsv (encI .u8) 1 ((⟨x0⟩ : St111).Oper_.F_), .int .i64 ((⟨x0⟩ : St111).Oper_.W_), .int .i64 ((⟨x0⟩ : St111).Oper_.C_)]] [])] 5) (tr2 := []) (by kernel_rfl) (by simp [hitC, missC, sameB, sameE, hn13, hn20, hn27, hn34, hn41, hn48]) ?_
        refine kC 5 [4,5,6,7] ?_
        refine kEN ?_
        refine kS ?_
        refine kSR ?_
        refine kC 2 [4,5,6,20] ?_
        refine kEN ?_
        refine kF ?_
        refine kK ?_
        refine PJ.next ?_
        refine kSR ?_
        refine kC 1 [4,5,21] ?_
        obtain ⟨y49, hy50, h51⟩ := bindS h46
        refine kA 22 (oper_asked__cut_ok hy50) ?_
        refine RJ.seg 4 [4, 5] (L2 := [(4, lsv (encI .u8) 1 y49.1), (5, .bool y49.2)]) (H2 := [.box (encSt41 x0), .map [(.int .u8 110, .fn (.func 83) [.agg [lsv (encI .u8) 1 ((⟨x0⟩ : St111).Oper_.I_), lsv (encI .u8) 1 ((⟨x0⟩ : St111).Oper_.F_), .int .i64 ((⟨x0⟩ : St111).Oper_.W_), .int .i64 ((⟨x0⟩ : St111).Oper_.C_)]] []), (.int .u8 105, .fn (.func 84) [.agg [lsv (encI .u8) 1 ((⟨x0⟩ : St111).Oper_.I_), lsv (encI .u8) 1 ((⟨x0⟩ : St111).Oper_.F_), .int .i64 ((⟨x0⟩ : St111).Oper_.W_), .int .i64 ((⟨x0⟩ : St111).Oper_.C_)]] []), (.int .u8 118, .fn (.func 85) [.agg [lsv (encI .u8) 1 ((⟨x0⟩ : St111).Oper_.I_), lsv (encI .u8) 1 ((⟨x0⟩ : St111).Oper_.F_), .int .i64 ((⟨x0⟩ : St111).Oper_.W_), .int .i64 ((⟨x0⟩ : St111).Oper_.C_)]] []), (.int .u8 119, .fn (.func 86) [.agg [lsv (encI .u8) 1 ((⟨x0⟩ : St111).Oper_.I_), lsv (encI .u8) 1 ((⟨x0⟩ : St111).Oper_.F_), .int .i64 ((⟨x0⟩ : St111).Oper_.W_), .int .i64 ((⟨x0⟩ : St111).Oper_.C_)]] []), (.int .u8 102, .fn (.func 87) [.agg [lsv (encI .u8) 1 ((⟨x0⟩ : St111).Oper_.I_), lsv (encI .u8) 1 ((⟨x0⟩ : St111).Oper_.F_), .int .i64 ((⟨x0⟩ : St111).Oper_.W_), .int .i64 ((⟨x0⟩ : St111).Oper_.C_)]] []), (.int .u8 116, .fn (.func 88) [.agg [lsv (encI .u8) 1 ((⟨x0⟩ : St111).Oper_.I_), lsv (encI .u8) 1 ((⟨x0⟩ : St111).Oper_.F_), .int .i64 ((⟨x0⟩ : St111).Oper_.W_), .int .i64 ((⟨x0⟩ : St111).Oper_.C_)]] []), (.int .u8 99, .fn (.func 89) [.agg [lsv (encI .u8) 1 ((⟨x0⟩ : St111).Oper_.I_), lsv (encI .u8) 1 ((⟨x0⟩ : St111).Oper_.F_), .int .i64 ((⟨x0⟩ : St111).Oper_.W_), .int .i64 ((⟨x0⟩ : St111).Oper_.C_)]] []), (.int .u8 101, .fn (.func 89) [.agg [lsv (encI .u8) 1 ((⟨x0⟩ : St111).Oper_.I_), lsv (encI .u8) 1 ((⟨x0⟩ : St111).Oper_.F_), .int .i64 ((⟨x0⟩ : St111).Oper_.W_), .int .i64 ((⟨x0⟩ : St111).Oper_.C_)]] [])]]) (by kernel_rfl) ?_
        refine kEN ?_
        refine kX ?_
        obtain rfl := oi h51
        exact kZ hFn hFH hFD
      ·have h39 := condT hb38 h33
       have hn41 := of_decide_eq_true hb38
       refine RJ.look (some 4) (d := some 16) (ef := ⟨.tup [.fn (.func 87) [.agg [lsv (encI .u8) 1 ((⟨x0⟩ : St111).Oper_.I_), lsv (encI .u8) 1 ((⟨x0⟩ : St111).Oper_.F_), .int .i64 ((⟨x0⟩ : St111).Oper_.W_), .int .i64 ((⟨x0⟩ : St111).Oper_.C_)]] [], .bool true], [1], []⟩) (c := hitC (.int .u8 x1) [(.int .u8 110, .fn (.func 83) [.agg [lsv (encI .u8) 1 ((⟨x0⟩ : St111).Oper_.I_), lsv (encI .u8) 1 ((⟨x0⟩ : St111).Oper_.F_), .int .i64 ((⟨x0⟩ : St111).Oper_.W_), .int .i64 ((⟨x0⟩ : St111).Oper_.C_)]] []), (.int .u8 105, .fn (.func 84) [.agg [lsv (encI .u8) 1 ((⟨x0⟩ : St111).Oper_.I_), lsv (encI .u8) 1 ((⟨x0⟩ : St111).Oper_.F_), .int .i64 ((⟨x0⟩ : St111).Oper_.W_), .int .i64 ((⟨x0⟩ : St111).Oper_.C_)]] []), (.int .u8 118, .fn (.func 85) [.agg [lsv (encI .u8) 1 ((⟨x0⟩ : St111).Oper_.I_), lsv (encI .u8) 1 ((⟨x0⟩ : St111).Oper_.F_), .int .i64 ((⟨x0⟩ : St111).Oper_.W_), .int .i64 ((⟨x0⟩ : St111).Oper_.C_)]] []), (.int .u8 119, .fn (.func 86) [.agg [lsv (encI .u8) 1 ((⟨x0⟩ : St111).Oper_.I_), lsv (encI .u8) 1 ((⟨x0⟩ : St111).Oper_.F_), .int .i64 ((⟨x0⟩ : St111).Oper_.W_), .int .i64 ((⟨x0⟩ : St111).Oper_.C_)]] []), (.int .u8 102, .fn (.func 87) [.agg [lsv (encI .u8) 1 ((⟨x0⟩ : St111).Oper_.I_), lsv (encI .u8) 1 ((⟨x0⟩ : St111).Oper_.F_), .int .i64 ((⟨x0⟩ : St111).Oper_.W_), .int .i64 ((⟨x0⟩ : St111).Oper_.C_)]] []), (.int .u8 116, .fn (.func 88) [.agg [lsv (encI .u8) 1 ((⟨x0⟩ : St111).Oper_.I_), lsv (encI .u8) 1 ((⟨x0⟩ : St111).Oper_.F_), .int .i64 ((⟨x0⟩ : St111).Oper_.W_), .int .i64 ((⟨x0⟩ : St111).Oper_.C_)]] []), (.int .u8 99, .fn (.func 89) [.agg [lsv (encI .u8) 1 ((⟨x0⟩ : St111).Oper_.I_), lsv (encI .u8) 1 ((⟨x0⟩ : St111).Oper_.F_), .int .i64 ((⟨x0⟩ : St111).Oper_.W_), .int .i64 ((⟨x0⟩ : St111).Oper_.C_)]] []), (.int .u8 101, .fn (.func 89) [.agg [lsv (encI .u8) 1 ((⟨x0⟩ : St111).Oper_.I_), lsv (encI .u8) 1 ((⟨x0⟩ : St111).Oper_.F_), .int .i64 ((⟨x0⟩ : St111).Oper_.W_), .int .i64 ((⟨x0⟩ : St111).Oper_.C_)]] [])] 4) (tr2 := []) (by kernel_rfl) (by simp [hitC, missC, sameB, sameE, hn13, hn20, hn27, hn34, hn41]) ?_
       refine kC 5 [4,5,6,7] ?_
       refine kEN ?_
       refine kS ?_
       refine kSR ?_
       refine kC 2 [4,5,6,20] ?_
       refine kEN ?_
       refine kF ?_
       refine kK ?_
       refine PJ.next ?_
       refine kSR ?_
       refine kC 1 [4,5,21] ?_
       obtain ⟨y42, hy43, h44⟩ := bindS h39
       refine kA 22 (oper_asked__part_ok hy43) ?_
       refine RJ.seg 4 [4, 5] (L2 := [(4, lsv (encI .u8) 1 y42.1), (5, .bool y42.2)]) (H2 := [.box (encSt41 x0), .map [(.int .u8 110, .fn (.func 83) [.agg [lsv (encI .u8) 1 ((⟨x0⟩ : St111).Oper_.I_), lsv (encI .u8) 1 ((⟨x0⟩ : St111).Oper_.F_), .int .i64 ((⟨x0⟩ : St111).Oper_.W_), .int .i64 ((⟨x0⟩ : St111).Oper_.C_)]] []), (.int .u8 105, .fn (.func 84) [.agg [lsv (encI .u8) 1 ((⟨x0⟩ : St111).Oper_.I_), lsv (encI .u8) 1 ((⟨x0⟩ : St111).Oper_.F_), .int .i64 ((⟨x0⟩ : St111).Oper_.W_), .int .i64 ((⟨x0⟩ : St111).Oper_.C_)]] []), (.int .u8 118, .fn (.func 85) [.agg [lsv (encI .u8) 1 ((⟨x0⟩ : St111).Oper_.I_), lsv (encI .u8) 1 ((⟨x0⟩ : St111).Oper_.F_), .int .i64 ((⟨x0⟩ : St111).Oper_.W_), .int .i64 ((⟨x0⟩ : St111).Oper_.C_)]] []), (.int .u8 119, .fn (.func 86) [.agg [lsv (encI .u8) 1 ((⟨x0⟩ : St111).Oper_.I_), lsv (encI .u8) 1 ((⟨x0⟩ : St111).Oper_.F_), .int .i64 ((⟨x0⟩ : St111).Oper_.W_), .int .i64 ((⟨x0⟩ : St111).Oper_.C_)]] []), (.int .u8 102, .fn (.func 87) [.agg [lsv (encI .u8) 1 ((⟨x0⟩ : St111).Oper_.I_), lsv (encI .u8) 1 ((⟨x0⟩ : St111).Oper_.F_), .int .i64 ((⟨x0⟩ : St111).Oper_.W_), .int .i64 ((⟨x0⟩ : St111).Oper_.C_)]] []), (.int .u8 116, .fn (.func 88) [.agg [lsv (encI .u8) 1 ((⟨x0⟩ : St111).Oper_.I_), lsv (encI .u8) 1 ((⟨x0⟩ : St111).Oper_.F_), .int .i64 ((⟨x0⟩ : St111).Oper_.W_), .int .i64 ((⟨x0⟩ : St111).Oper_.C_)]] []), (.int .u8 99, .fn (.func 89) [.agg [lsv (encI .u8) 1 ((⟨x0⟩ : St111).Oper_.I_), lsv (encI .u8) 1 ((⟨x0⟩ : St111).Oper_.F_), .int .i64 ((⟨x0⟩ : St111).Oper_.W_), .int .i64 ((⟨x0⟩ : St111).Oper_.C_)]] []), (.int .u8 101, .fn (.func 89) [.agg [lsv (encI .u8) 1 ((⟨x0⟩ : St111).Oper_.I_), lsv (encI .u8) 1 ((⟨x0⟩ : St111).Oper_.F_), .int .i64 ((⟨x0⟩ : St111).Oper_.W_), .int .i64 ((⟨x0⟩ : St111).Oper_.C_)]] [])]]) (by kernel_rfl) ?_
       refine kEN ?_
       refine kX ?_
       obtain rfl := oi h44
       exact kZ hFn hFH hFD
     ·have h32 := condT hb31 h26
      have hn34 := of_decide_eq_true hb31
      refine RJ.look (some 3) (d := some 16) (ef := ⟨.tup [.fn (.func 86) [.agg [lsv (encI .u8) 1 ((⟨x0⟩ : St111).Oper_.I_), lsv (encI .u8) 1 ((⟨x0⟩ : St111).Oper_.F_), .int .i64 ((⟨x0⟩ : St111).Oper_.W_), .int .i64 ((⟨x0⟩ : St111).Oper_.C_)]] [], .bool true], [1], []⟩) (c := hitC (.int .u8 x1) [(.int .u8 110, .fn (.func 83) [.agg [lsv (encI .u8) 1 ((⟨x0⟩ : St111).Oper_.I_), lsv (encI .u8) 1 ((⟨x0⟩ : St111).Oper_.F_), .int .i64 ((⟨x0⟩ : St111).Oper_.W_), .int .i64 ((⟨x0⟩ : St111).Oper_.C_)]] []), (.int .u8 105, .fn (.func 84) [.agg [lsv (encI .u8) 1 ((⟨x0⟩ : St111).Oper_.I_), lsv (encI .u8) 1 ((⟨x0⟩ : St111).Oper_.F_), .int .i64 ((⟨x0⟩ : St111).Oper_.W_), .int .i64 ((⟨x0⟩ : St111).Oper_.C_)]] []), (.int .u8 118, .fn (.func 85) [.agg [lsv (encI .u8) 1 ((⟨x0⟩ : St111).Oper_.I_), lsv (encI .u8) 1 ((⟨x0⟩ : St111).Oper_.F_), .int .i64 ((⟨x0⟩ : St111).Oper_.W_), .int .i64 ((⟨x0⟩ : St111).Oper_.C_)]] []), (.int .u8 119, .fn (.func 86) [.agg [lsv (encI .u8) 1 ((⟨x0⟩ : St111).Oper_.I_), lsv (encI .u8) 1 ((⟨x0⟩ : St111).Oper_.F_), .int .i64 ((⟨x0⟩ : St111).Oper_.W_), .int .i64 ((⟨x0⟩ : St111).Oper_.C_)]] []), (.int .u8 102, .fn (.func 87) [.agg [lsv (encI .u8) 1 ((⟨x0⟩ : St111).Oper_.I_), lsv (encI .u8) 1 ((⟨x0⟩ : St111).Oper_.F_), .int .i64 ((⟨x0⟩ : St111).Oper_.W_), .int .i64 ((⟨x0⟩ : St111).Oper_.C_)]] []), (.int .u8 116, .fn (.func 88) [.agg [lsv (encI .u8) 1 ((⟨x0⟩ : St111).Oper_.I_), lsv (encI .u8) 1 ((⟨x0⟩ : St111).Oper_.F_), .int .i64 ((⟨x0⟩ : St111).Oper_.W_), .int .i64 ((⟨x0⟩ : St111).Oper_.C_)]] []), (.int .u8 99, .fn (.func 89) [.agg [lsv (encI .u8) 1 ((⟨x0⟩ : St111).Oper_.I_), lsv (encI .u8) 1 ((⟨x0⟩ : St111).Oper_.F_), .int .i64 ((⟨x0⟩ : St111).Oper_.W_), .int .i64 ((⟨x0⟩ : St111).Oper_.C_)]] []), (.int .u8 101, .fn (.func 89) [.agg [lsv (encI .u8) 1 ((⟨x0⟩ : St111).Oper_.I_), lsv (encI .u8) 1 ((⟨x0⟩ : St111).Oper_.F_), .int .i64 ((⟨x0⟩ : St111).Oper_.W_), .int .i64 ((⟨x0⟩ : St111).Oper_.C_)]] [])] 3) (tr2 := []) (by kernel_rfl) (by simp [hitC, missC, sameB, sameE, hn13, hn20, hn27, hn34]) ?_
      refine kC 5 [4,5,6,7] ?_
      refine kEN ?_
      refine kS ?_
      refine kSR ?_
      refine kC 2 [4,5,6,20] ?_
      refine kEN ?_
      refine kF ?_
      refine kK ?_
      refine PJ.next ?_
      refine kSR ?_
      refine kC 1 [4,5,21] ?_
      obtain ⟨y35, hy36, h37⟩ := bindS h32
      refine kA 22 (oper_asked__short_ok hy36) ?_
      refine RJ.seg 4 [4, 5] (L2 := [(4, lsv (encI .u8) 1 y35.1), (5, .bool y35.2)]) (H2 := [.box (encSt41 x0), .map [(.int .u8 110, .fn (.func 83) [.agg [lsv (encI .u8) 1 ((⟨x0⟩ : St111).Oper_.I_), lsv (encI .u8) 1 ((⟨x0⟩ : St111).Oper_.F_), .int .i64 ((⟨x0⟩ : St111).Oper_.W_), .int .i64 ((⟨x0⟩ : St111).Oper_.C_)]] []), (.int .u8 105, .fn (.func 84) [.agg [lsv (encI .u8) 1 ((⟨x0⟩ : St111).Oper_.I_), lsv (encI .u8) 1 ((⟨x0⟩ : St111).Oper_.F_), .int .i64 ((⟨x0⟩ : St111).Oper_.W_), .int .i64 ((⟨x0⟩ : St111).Oper_.C_)]] []), (.int .u8 118, .fn (.func 85) [.agg [lsv (encI .u8) 1 ((⟨x0⟩ : St111).Oper_.I_), lsv (encI .u8) 1 ((⟨x0⟩ : St111).Oper_.F_), .int .i64 ((⟨x0⟩ : St111).Oper_.W_), .int .i64 ((⟨x0⟩ : St111).Oper_.C_)]] []), (.int .u8 119, .fn (.func 86) [.agg [lsv (encI .u8) 1 ((⟨x0⟩ : St111).Oper_.I_), lsv (encI .u8) 1 ((⟨x0⟩ : St111).Oper_.F_), .int .i64 ((⟨x0⟩ : St111).Oper_.W_), .int .i64 ((⟨x0⟩ : St111).Oper_.C_)]] []), (.int .u8 102, .fn (.func 87) [.agg [lsv (encI .u8) 1 ((⟨x0⟩ : St111).Oper_.I_), lsv (encI .u8) 1 ((⟨x0⟩ : St111).Oper_.F_), .int .i64 ((⟨x0⟩ : St111).Oper_.W_), .int .i64 ((⟨x0⟩ : St111).Oper_.C_)]] []), (.int .u8 116, .fn (.func 88) [.agg [lsv (encI .u8) 1 ((⟨x0⟩ : St111).Oper_.I_), lsv (encI .u8) 1 ((⟨x0⟩ : St111).Oper_.F_), .int .i64 ((⟨x0⟩ : St111).Oper_.W_), .int .i64 ((⟨x0⟩ : St111).Oper_.C_)]] []), (.int .u8 99, .fn (.func 89) [.agg [lsv (encI .u8) 1 ((⟨x0⟩ : St111).Oper_.I_), lsv (encI .u8) 1 ((⟨x0⟩ : St111).Oper_.F_), .int .i64 ((⟨x0⟩ : St111).Oper_.W_), .int .i64 ((⟨x0⟩ : St111).Oper_.C_)]] []), (.int .u8 101, .fn (.func 89) [.agg [lsv (encI .u8) 1 ((⟨x0⟩ : St111).Oper_.I_), lsv (encI .u8) 1 ((⟨x0⟩ : St111).Oper_.F_), .int .i64 ((⟨x0⟩ : St111).Oper_.W_), .int .i64 ((⟨x0⟩ : St111).Oper_.C_)]] [])]]) (by kernel_rfl) ?_
      refine kEN ?_
      refine kX ?_
      obtain rfl := oi h37
      exact kZ hFn hFH hFD
    ·have h25 := condT hb24 h19
     have hn27 := of_decide_eq_true hb24
     refine RJ.look (some 2) (d := some 16) (ef := ⟨.tup [.fn (.func 85) [.agg [lsv (encI .u8) 1 ((⟨x0⟩ : St111).Oper_.I_), lsv (encI .u8) 1 ((⟨x0⟩ : St111).Oper_.F_), .int .i64 ((⟨x0⟩ : St111).Oper_.W_), .int .i64 ((⟨x0⟩ : St111).Oper_.C_)]] [], .bool true], [1], []⟩) (c := hitC (.int .u8 x1) [(.int .u8 110, .fn (.func 83) [.agg [lsv (encI .u8) 1 ((⟨x0⟩ : St111).Oper_.I_), lsv (encI .u8) 1 ((⟨x0⟩ : St111).Oper_.F_), .int .i64 ((⟨x0⟩ : St111).Oper_.W_), .int .i64 ((⟨x0⟩ : St111).Oper_.C_)]] []), (.int .u8 105, .fn (.func 84) [.agg [lsv (encI .u8) 1 ((⟨x0⟩ : St111).Oper_.I_), lsv (encI .u8) 1 ((⟨x0⟩ : St111).Oper_.F_), .int .i64 ((⟨x0⟩ : St111).Oper_.W_), .int .i64 ((⟨x0⟩ : St111).Oper_.C_)]] []), (.int .u8 118, .fn (.func 85) [.agg [lsv (encI .u8) 1 ((⟨x0⟩ : St111).Oper_.I_), lsv (encI .u8) 1 ((⟨x0⟩ : St111).Oper_.F_), .int .i64 ((⟨x0⟩ : St111).Oper_.W_), .int .i64 ((⟨x0⟩ : St111).Oper_.C_)]] []), (.int .u8 119, .fn (.func 86) [.agg [lsv (encI .u8) 1 ((⟨x0⟩ : St111).Oper_.I_), lsv (encI .u8) 1 ((⟨x0⟩ : St111).Oper_.F_), .int .i64 ((⟨x0⟩ : St111).Oper_.W_), .int .i64 ((⟨x0⟩ : St111).Oper_.C_)]] []), (.int .u8 102, .fn (.func 87) [.agg [lsv (encI .u8) 1 ((⟨x0⟩ : St111).Oper_.I_), lsv (encI .u8) 1 ((⟨x0⟩ : St111).Oper_.F_), .int .i64 ((⟨x0⟩ : St111).Oper_.W_), .int .i64 ((⟨x0⟩ : St111).Oper_.C_)]] []), (.int .u8 116, .fn (.func 88) [.agg [lsv (encI .u8) 1 ((⟨x0⟩ : St111).Oper_.I_), lsv (encI .u8) 1 ((⟨x0⟩ : St111).Oper_.F_), .int .i64 ((⟨x0⟩ : St111).Oper_.W_), .int .i64 ((⟨x0⟩ : St111).Oper_.C_)]] []), (.int .u8 99, .fn (.func 89) [.agg [lsv (encI .u8) 1 ((⟨x0⟩ : St111).Oper_.I_), lsv (encI .u8) 1 ((⟨x0⟩ : St111).Oper_.F_), .int .i64 ((⟨x0⟩ : St111).Oper_.W_), .int .i64 ((⟨x0⟩ : St111).Oper_.C_)]] []), (.int .u8 101, .fn (.func 89) [.agg [lsv (encI .u8) 1 ((⟨x0⟩ : St111).Oper_.I_), lsv (encI .u8) 1 ((⟨x0⟩ : St111).Oper_.F_), .int .i64 ((⟨x0⟩ : St111).Oper_.W_), .int .i64 ((⟨x0⟩ : St111).Oper_.C_)]] [])] 2) (tr2 := []) (by kernel_rfl) (by simp [hitC, missC, sameB, sameE, hn13, hn20, hn27]) ?_
     refine kC 5 [4,5,6,7] ?_
     refine kEN ?_
     refine kS ?_
     refine kSR ?_
     refine kC 2 [4,5,6,20] ?_
     refine kEN ?_
     refine kF ?_
     refine kK ?_
     refine PJ.next ?_
     refine kSR ?_
     refine kC 1 [4,5,21] ?_
     obtain ⟨y28, hy29, h30⟩ := bindS h25
     refine kA 22 (oper_asked__long_ok hy29) ?_
     refine RJ.seg 4 [4, 5] (L2 := [(4, lsv (encI .u8) 1 y28.1), (5, .bool y28.2)]) (H2 := [.box (encSt41 x0), .map [(.int .u8 110, .fn (.func 83) [.agg [lsv (encI .u8) 1 ((⟨x0⟩ : St111).Oper_.I_), lsv (encI .u8) 1 ((⟨x0⟩ : St111).Oper_.F_), .int .i64 ((⟨x0⟩ : St111).Oper_.W_), .int .i64 ((⟨x0⟩ : St111).Oper_.C_)]] []), (.int .u8 105, .fn (.func 84) [.agg [lsv (encI .u8) 1 ((⟨x0⟩ : St111).Oper_.I_), lsv (encI .u8) 1 ((⟨x0⟩ : St111).Oper_.F_), .int .i64 ((⟨x0⟩ : St111).Oper_.W_), .int .i64 ((⟨x0⟩ : St111).Oper_.C_)]] []), (.int .u8 118, .fn (.func 85) [.agg [lsv (encI .u8) 1 ((⟨x0⟩ : St111).Oper_.I_), lsv (encI .u8) 1 ((⟨x0⟩ : St111).Oper_.F_), .int .i64 ((⟨x0⟩ : St111).Oper_.W_), .int .i64 ((⟨x0⟩ : St111).Oper_.C_)]] []), (.int .u8 119, .fn (.func 86) [.agg [lsv (encI .u8) 1 ((⟨x0⟩ : St111).Oper_.I_), lsv (encI .u8) 1 ((⟨x0⟩ : St111).Oper_.F_), .int .i64 ((⟨x0⟩ : St111).Oper_.W_), .int .i64 ((⟨x0⟩ : St111).Oper_.C_)]] []), (.int .u8 102, .fn (.func 87) [.agg [lsv (encI .u8) 1 ((⟨x0⟩ : St111).Oper_.I_), lsv (encI .u8) 1 ((⟨x0⟩ : St111).Oper_.F_), .int .i64 ((⟨x0⟩ : St111).Oper_.W_), .int .i64 ((⟨x0⟩ : St111).Oper_.C_)]] []), (.int .u8 116, .fn (.func 88) [.agg [lsv (encI .u8) 1 ((⟨x0⟩ : St111).Oper_.I_), lsv (encI .u8) 1 ((⟨x0⟩ : St111).Oper_.F_), .int .i64 ((⟨x0⟩ : St111).Oper_.W_), .int .i64 ((⟨x0⟩ : St111).Oper_.C_)]] []), (.int .u8 99, .fn (.func 89) [.agg [lsv (encI .u8) 1 ((⟨x0⟩ : St111).Oper_.I_), lsv (encI .u8) 1 ((⟨x0⟩ : St111).Oper_.F_), .int .i64 ((⟨x0⟩ : St111).Oper_.W_), .int .i64 ((⟨x0⟩ : St111).Oper_.C_)]] []), (.int .u8 101, .fn (.func 89) [.agg [lsv (encI .u8) 1 ((⟨x0⟩ : St111).Oper_.I_), lsv (encI .u8) 1 ((⟨x0⟩ : St111).Oper_.F_), .int .i64 ((⟨x0⟩ : St111).Oper_.W_), .int .i64 ((⟨x0⟩ : St111).Oper_.C_)]] [])]]) (by kernel_rfl) ?_
     refine kEN ?_
     refine kX ?_
     obtain rfl := oi h30
     exact kZ hFn hFH hFD
   ·have h18 := condT hb17 h12
    have hn20 := of_decide_eq_true hb17
    refine RJ.look (some 1) (d := some 16) (ef := ⟨.tup [.fn (.func 84) [.agg [lsv (encI .u8) 1 ((⟨x0⟩ : St111).Oper_.I_), lsv (encI .u8) 1 ((⟨x0⟩ : St111).Oper_.F_), .int .i64 ((⟨x0⟩ : St111).Oper_.W_), .int .i64 ((⟨x0⟩ : St111).Oper_.C_)]] [], .bool true], [1], []⟩) (c := hitC (.int .u8 x1) [(.int .u8 110, .fn (.func 83) [.agg [lsv (encI .u8) 1 ((⟨x0⟩ : St111).Oper_.I_), lsv (encI .u8) 1 ((⟨x0⟩ : St111).Oper_.F_), .int .i64 ((⟨x0⟩ : St111).Oper_.W_), .int .i64 ((⟨x0⟩ : St111).Oper_.C_)]] []), (.int .u8 105, .fn (.func 84) [.agg [lsv (encI .u8) 1 ((⟨x0⟩ : St111).Oper_.I_), lsv (encI .u8) 1 ((⟨x0⟩ : St111).Oper_.F_), .int .i64 ((⟨x0⟩ : St111).Oper_.W_), .int .i64 ((⟨x0⟩ : St111).Oper_.C_)]] []), (.int .u8 118, .fn (.func 85) [.agg [lsv (encI .u8) 1 ((⟨x0⟩ : St111).Oper_.I_), lsv (encI .u8) 1 ((⟨x0⟩ : St111).Oper_.F_), .int .i64 ((⟨x0⟩ : St111).Oper_.W_), .int .i64 ((⟨x0⟩ : St111).Oper_.C_)]] []), (.int .u8 119, .fn (.func 86) [.agg [lsv (encI .u8) 1 ((⟨x0⟩ : St111).Oper_.I_), lsv (encI .u8) 1 ((⟨x0⟩ : St111).Oper_.F_), .int .i64 ((⟨x0⟩ : St111).Oper_.W_), .int .i64 ((⟨x0⟩ : St111).Oper_.C_)]] []), (.int .u8 102, .fn (.func 87) [.agg [lsv (encI .u8) 1 ((⟨x0⟩ : St111).Oper_.I_), lsv (encI .u8) 1 ((⟨x0⟩ : St111).Oper_.F_), .int .i64 ((⟨x0⟩ : St111).Oper_.W_), .int .i64 ((⟨x0⟩ : St111).Oper_.C_)]] []), (.int .u8 116, .fn (.func 88) [.agg [lsv (encI .u8) 1 ((⟨x0⟩ : St111).Oper_.I_), lsv (encI .u8) 1 ((⟨x0⟩ : St111).Oper_.F_), .int .i64 ((⟨x0⟩ : St111).Oper_.W_), .int .i64 ((⟨x0⟩ : St111).Oper_.C_)]] []), (.int .u8 99, .fn (.func 89) [.agg [lsv (encI .u8) 1 ((⟨x0⟩ : St111).Oper_.I_), lsv (encI .u8) 1 ((⟨x0⟩ : St111).Oper_.F_), .int .i64 ((⟨x0⟩ : St111).Oper_.W_), .int .i64 ((⟨x0⟩ : St111).Oper_.C_)]] []), (.int .u8 101, .fn (.func 89) [.agg [lsv (encI .u8) 1 ((⟨x0⟩ : St111).Oper_.I_), lsv (encI .u8) 1 ((⟨x0⟩ : St111).Oper_.F_), .int .i64 ((⟨x0⟩ : St111).Oper_.W_), .int .i64 ((⟨x0⟩ : St111).Oper_.C_)]] [])] 1) (tr2 := []) (by kernel_rfl) (by simp [hitC, missC, sameB, sameE, hn13, hn20]) ?_
    refine kC 5 [4,5,6,7] ?_
    refine kEN ?_
    refine kS ?_
    refine kSR ?_
    refine kC 2 [4,5,6,20] ?_
    refine kEN ?_
    refine kF ?_
    refine kK ?_
    refine PJ.next ?_
    refine kSR ?_
    refine kC 1 [4,5,21] ?_
    obtain ⟨y21, hy22, h23⟩ := bindS h18
    refine kA 22 (oper_asked__whole_ok hy22) ?_
    refine RJ.seg 4 [4, 5] (L2 := [(4, lsv (encI .u8) 1 y21.1), (5, .bool y21.2)]) (H2 := [.box (encSt41 x0), .map [(.int .u8 110, .fn (.func 83) [.agg [lsv (encI .u8) 1 ((⟨x0⟩ : St111).Oper_.I_), lsv (encI .u8) 1 ((⟨x0⟩ : St111).Oper_.F_), .int .i64 ((⟨x0⟩ : St111).Oper_.W_), .int .i64 ((⟨x0⟩ : St111).Oper_.C_)]] []), (.int .u8 105, .fn (.func 84) [.agg [lsv (encI .u8) 1 ((⟨x0⟩ : St111).Oper_.I_), lsv (encI .u8) 1 ((⟨x0⟩ : St111).Oper_.F_), .int .i64 ((⟨x0⟩ : St111).Oper_.W_), .int .i64 ((⟨x0⟩ : St111).Oper_.C_)]] []), (.int .u8 118, .fn (.func 85) [.agg [lsv (encI .u8) 1 ((⟨x0⟩ : St111).Oper_.I_), lsv (encI .u8) 1 ((⟨x0⟩ : St111).Oper_.F_), .int .i64 ((⟨x0⟩ : St111).Oper_.W_), .int .i64 ((⟨x0⟩ : St111).Oper_.C_)]] []), (.int .u8 119, .fn (.func 86) [.agg [lsv (encI .u8) 1 ((⟨x0⟩ : St111).Oper_.I_), lsv (encI .u8) 1 ((⟨x0⟩ : St111).Oper_.F_), .int .i64 ((⟨x0⟩ : St111).Oper_.W_), .int .i64 ((⟨x0⟩ : St111).Oper_.C_)]] []), (.int .u8 102, .fn (.func 87) [.agg [lsv (encI .u8) 1 ((⟨x0⟩ : St111).Oper_.I_), lsv (encI .u8) 1 ((⟨x0⟩ : St111).Oper_.F_), .int .i64 ((⟨x0⟩ : St111).Oper_.W_), .int .i64 ((⟨x0⟩ : St111).Oper_.C_)]] []), (.int .u8 116, .fn (.func 88) [.agg [lsv (encI .u8) 1 ((⟨x0⟩ : St111).Oper_.I_), lsv (encI .u8) 1 ((⟨x0⟩ : St111).Oper_.F_), .int .i64 ((⟨x0⟩ : St111).Oper_.W_), .int .i64 ((⟨x0⟩ : St111).Oper_.C_)]] []), (.int .u8 99, .fn (.func 89) [.agg [lsv (encI .u8) 1 ((⟨x0⟩ : St111).Oper_.I_), lsv (encI .u8) 1 ((⟨x0⟩ : St111).Oper_.F_), .int .i64 ((⟨x0⟩ : St111).Oper_.W_), .int .i64 ((⟨x0⟩ : St111).Oper_.C_)]] []), (.int .u8 101, .fn (.func 89) [.agg [lsv (encI .u8) 1 ((⟨x0⟩ : St111).Oper_.I_), lsv (encI .u8) 1 ((⟨x0⟩ : St111).Oper_.F_), .int .i64 ((⟨x0⟩ : St111).Oper_.W_), .int .i64 ((⟨x0⟩ : St111).Oper_.C_)]] [])]]) (by kernel_rfl) ?_
    refine kEN ?_
    refine kX ?_
    obtain rfl := oi h23
    exact kZ hFn hFH hFD
  ·have h11 := condT hb10 h9
   have hn13 := of_decide_eq_true hb10
   refine RJ.look (some 0) (d := some 16) (ef := ⟨.tup [.fn (.func 83) [.agg [lsv (encI .u8) 1 ((⟨x0⟩ : St111).Oper_.I_), lsv (encI .u8) 1 ((⟨x0⟩ : St111).Oper_.F_), .int .i64 ((⟨x0⟩ : St111).Oper_.W_), .int .i64 ((⟨x0⟩ : St111).Oper_.C_)]] [], .bool true], [1], []⟩) (c := hitC (.int .u8 x1) [(.int .u8 110, .fn (.func 83) [.agg [lsv (encI .u8) 1 ((⟨x0⟩ : St111).Oper_.I_), lsv (encI .u8) 1 ((⟨x0⟩ : St111).Oper_.F_), .int .i64 ((⟨x0⟩ : St111).Oper_.W_), .int .i64 ((⟨x0⟩ : St111).Oper_.C_)]] []), (.int .u8 105, .fn (.func 84) [.agg [lsv (encI .u8) 1 ((⟨x0⟩ : St111).Oper_.I_), lsv (encI .u8) 1 ((⟨x0⟩ : St111).Oper_.F_), .int .i64 ((⟨x0⟩ : St111).Oper_.W_), .int .i64 ((⟨x0⟩ : St111).Oper_.C_)]] []), (.int .u8 118, .fn (.func 85) [.agg [lsv (encI .u8) 1 ((⟨x0⟩ : St111).Oper_.I_), lsv (encI .u8) 1 ((⟨x0⟩ : St111).Oper_.F_), .int .i64 ((⟨x0⟩ : St111).Oper_.W_), .int .i64 ((⟨x0⟩ : St111).Oper_.C_)]] []), (.int .u8 119, .fn (.func 86) [.agg [lsv (encI .u8) 1 ((⟨x0⟩ : St111).Oper_.I_), lsv (encI .u8) 1 ((⟨x0⟩ : St111).Oper_.F_), .int .i64 ((⟨x0⟩ : St111).Oper_.W_), .int .i64 ((⟨x0⟩ : St111).Oper_.C_)]] []), (.int .u8 102, .fn (.func 87) [.agg [lsv (encI .u8) 1 ((⟨x0⟩ : St111).Oper_.I_), lsv (encI .u8) 1 ((⟨x0⟩ : St111).Oper_.F_), .int .i64 ((⟨x0⟩ : St111).Oper_.W_), .int .i64 ((⟨x0⟩ : St111).Oper_.C_)]] []), (.int .u8 116, .fn (.func 88) [.agg [lsv (encI .u8) 1 ((⟨x0⟩ : St111).Oper_.I_), lsv (encI .u8) 1 ((⟨x0⟩ : St111).Oper_.F_), .int .i64 ((⟨x0⟩ : St111).Oper_.W_), .int .i64 ((⟨x0⟩ : St111).Oper_.C_)]] []), (.int .u8 99, .fn (.func 89) [.agg [lsv (encI .u8) 1 ((⟨x0⟩ : St111).Oper_.I_), lsv (encI .u8) 1 ((⟨x0⟩ : St111).Oper_.F_), .int .i64 ((⟨x0⟩ : St111).Oper_.W_), .int .i64 ((⟨x0⟩ : St111).Oper_.C_)]] []), (.int .u8 101, .fn (.func 89) [.agg [lsv (encI .u8) 1 ((⟨x0⟩ : St111).Oper_.I_), lsv (encI .u8) 1 ((⟨x0⟩ : St111).Oper_.F_), .int .i64 ((⟨x0⟩ : St111).Oper_.W_), .int .i64 ((⟨x0⟩ : St111).Oper_.C_)]] [])] 0) (tr2 := []) (by kernel_rfl) (by simp [hitC, missC, sameB, sameE, hn13]) ?_
   refine kC 5 [4,5,6,7] ?_
   refine kEN ?_
   refine kS ?_
   refine kSR ?_
   refine kC 2 [4,5,6,20] ?_
   refine kEN ?_
   refine kF ?_
   refine kK ?_
   refine PJ.next ?_
   refine kSR ?_
   refine kC 1 [4,5,21] ?_
   obtain ⟨y14, hy15, h16⟩ := bindS h11
   refine kA 22 (oper_asked__number_ok hy15) ?_
   refine RJ.seg 4 [4, 5] (L2 := [(4, lsv (encI .u8) 1 y14.1), (5, .bool y14.2)]) (H2 := [.box (encSt41 x0), .map [(.int .u8 110, .fn (.func 83) [.agg [lsv (encI .u8) 1 ((⟨x0⟩ : St111).Oper_.I_), lsv (encI .u8) 1 ((⟨x0⟩ : St111).Oper_.F_), .int .i64 ((⟨x0⟩ : St111).Oper_.W_), .int .i64 ((⟨x0⟩ : St111).Oper_.C_)]] []), (.int .u8 105, .fn (.func 84) [.agg [lsv (encI .u8) 1 ((⟨x0⟩ : St111).Oper_.I_), lsv (encI .u8) 1 ((⟨x0⟩ : St111).Oper_.F_), .int .i64 ((⟨x0⟩ : St111).Oper_.W_), .int .i64 ((⟨x0⟩ : St111).Oper_.C_)]] []), (.int .u8 118, .fn (.func 85) [.agg [lsv (encI .u8) 1 ((⟨x0⟩ : St111).Oper_.I_), lsv (encI .u8) 1 ((⟨x0⟩ : St111).Oper_.F_), .int .i64 ((⟨x0⟩ : St111).Oper_.W_), .int .i64 ((⟨x0⟩ : St111).Oper_.C_)]] []), (.int .u8 119, .fn (.func 86) [.agg [lsv (encI .u8) 1 ((⟨x0⟩ : St111).Oper_.I_), lsv (encI .u8) 1 ((⟨x0⟩ : St111).Oper_.F_), .int .i64 ((⟨x0⟩ : St111).Oper_.W_), .int .i64 ((⟨x0⟩ : St111).Oper_.C_)]] []), (.int .u8 102, .fn (.func 87) [.agg [lsv (encI .u8) 1 ((⟨x0⟩ : St111).Oper_.I_), lsv (encI .u8) 1 ((⟨x0⟩ : St111).Oper_.F_), .int .i64 ((⟨x0⟩ : St111).Oper_.W_), .int .i64 ((⟨x0⟩ : St111).Oper_.C_)]] []), (.int .u8 116, .fn (.func 88) [.agg [lsv (encI .u8) 1 ((⟨x0⟩ : St111).Oper_.I_), lsv (encI .u8) 1 ((⟨x0⟩ : St111).Oper_.F_), .int .i64 ((⟨x0⟩ : St111).Oper_.W_), .int .i64 ((⟨x0⟩ : St111).Oper_.C_)]] []), (.int .u8 99, .fn (.func 89) [.agg [lsv (encI .u8) 1 ((⟨x0⟩ : St111).Oper_.I_), lsv (encI .u8) 1 ((⟨x0⟩ : St111).Oper_.F_), .int .i64 ((⟨x0⟩ : St111).Oper_.W_), .int .i64 ((⟨x0⟩ : St111).Oper_.C_)]] []), (.int .u8 101, .fn (.func 89) [.agg [lsv (encI .u8) 1 ((⟨x0⟩ : St111).Oper_.I_), lsv (encI .u8) 1 ((⟨x0⟩ : St111).Oper_.F_), .int .i64 ((⟨x0⟩ : St111).Oper_.W_), .int .i64 ((⟨x0⟩ : St111).Oper_.C_)]] [])]]) (by kernel_rfl) ?_
   refine kEN ?_
   refine kX ?_
   obtain rfl := oi h16
   exact kZ hFn hFH hFD
def oper_Mod (x0 : List Int) (x1 : Int) : Option (Int) :=
 (Option.bind (Option.bind (bif (decide (x1 < 1)) then (some true) else (some (decide (x1 > 1000000000)))) fun (s24 : Bool) => (bif s24 then (some (.inr 0)) else (some (.inl ())))) (joinX fun (s16 : Unit) => (Option.bind (loopN (fun (s65 : Int × Int) => (bif (decide (s65.2 < (x0.length : Int))) then (bif inR s65.2 x0.length then (bif nz x1 then (some (.inl ((Int.tmod ((IntKind.wrap .i64 ((IntKind.wrap .i64 (s65.1 * 10)) + (IntKind.wrap .i64 (nth x0 s65.2))))) x1), (IntKind.wrap .i64 (s65.2 + 1))))) else none) else none) else (some (.inr s65.1)))) big (0, 0)) fun (s60 : Int) => (some s60))))
theorem oper_Mod_ok {x0 : List Int} {x1 : Int} {r : Int} (h : oper_Mod x0 x1 = some r) : SC Tryd.prog 74 [lsv (encI .u8) 1 x0, .int .i64 x1] [] (.int .i64 r) [] := by
 refine kFn (fn := Tryd.f74) (fun F hFn hFH hFD => ?_)
 unfold oper_Mod at h
 refine kSR ?_
 refine kC 1 [0,1,4] ?_
 refine kEN ?_
 obtain ⟨y17, hy18, h19⟩ := bindS h
 refine K.cutX (by kernel_rfl) (fun (s16 : Unit) => ([(0, lsv (encI .u8) 1 x0), (1, .int .i64 x1), (4, .int .i64 0)], [])) y17 ?_ (fun s16 hs => ?_)
 ·obtain ⟨s24, hy26, h28⟩ := bindS hy18
  refine K.cutN (by kernel_rfl) (fun (s24 : Bool) => ([(0, lsv (encI .u8) 1 x0), (1, .int .i64 x1), (4, .int .i64 0), (13, .bool s24)], [])) s24 ?_ ?_
  ·refine kR ?_
   refine kC 3 [0,1,4,10] ?_
   refine kB 10 hy26 (fun h30 => ?_) (fun h31 => ?_)
   ·refine kC 3 [0,1,4,13] ?_
    refine kE ?_
    obtain rfl := oi h30
    exact kN [0, 1, 4, 13]
   ·refine kC 3 [0,1,4,13] ?_
    refine kE ?_
    obtain rfl := oi h31
    exact kN [0, 1, 4, 13]
  ·refine kBJ 13 h28 (fun h33 => ?_) (fun h34 => ?_)
   ·refine kT ?_
    refine kSR ?_
    refine kC 1 [0,1,4] ?_
    refine kEN ?_
    refine kX ?_
    obtain rfl := oi h33
    have h35 := joinX_inr h19
    refine PJ.cutXr (fun e => nomatch e) ?_
    obtain rfl := oi h35
    exact kZ hFn hFH hFD
   ·refine kF ?_
    refine kK ?_
    obtain rfl := oi h34
    exact kXl [0, 1, 4]
 ·subst hs
  have h20 := joinX_inl h19
  refine kSR ?_
  refine kC 1 [0,1,4,5] ?_
  refine kEN ?_
  obtain ⟨s60, hy62, h64⟩ := bindS h20
  refine K.cutN (by kernel_rfl) (fun (s60 : Int) => ([(4, .int .i64 0), (5, .int .i64 s60)], [])) s60 ?_ ?_
  ·refine kSR ?_
   refine kC 3 [1,4,5,14,15,16] ?_
   refine kEN ?_
   refine kb 0 ?_
   refine kl (fun (s65 : Int × Int) => ([(1, .int .i64 x1), (4, .int .i64 0), (5, .int .i64 s65.1), (14, lsv (encI .u8) 1 x0), (15, .int .i64 (x0.length : Int)), (16, .int .i64 s65.2)], [])) hy62 [1, 4, 5, 14, 15, 16] (fun s65 x81 hs80 => ?_)
   refine kSR ?_
   refine kC 1 [1,4,5,14,15,16,17] ?_
   refine kEN ?_
   refine kS ?_
   refine kBJ 17 hs80 (fun h83 => ?_) (fun h84 => ?_)
   ·refine kT ?_
    refine kK ?_
    refine PJ.next ?_
    refine kS ?_
    refine kb 1 ?_
    refine kSR ?_
    obtain ⟨hm, h85⟩ := asrt h83
    refine kI 18 (encI_len .u8) hm ?_
    refine kC 2 [1,4,5,7,14,15,16] ?_
    refine kEN ?_
    refine kR ?_
    refine kC 6 [1,4,5,14,15,16,24,25] ?_
    obtain ⟨hm, h86⟩ := asrt h85
    refine kQ 26 (.int .i64 (Int.tmod ((IntKind.wrap .i64 ((IntKind.wrap .i64 (s65.1 * 10)) + (IntKind.wrap .i64 (nth x0 s65.2))))) x1)) [] (tr2 := []) hm ?_
    refine kC 1 [1,4,5,14,15,16] ?_
    refine kE ?_
    refine PJ.blockNormal ?_
    refine PJ.next ?_
    refine kR ?_
    refine kC 2 [1,4,5,14,15,16] ?_
    refine kE ?_
    obtain rfl := oi h86
    exact kLN [1, 4, 5, 14, 15, 16]
   ·refine kF ?_
    refine K.exit 0 (by kernel_rfl) ?_
    refine PJ.passExit ?_
    obtain rfl := oi h84
    refine PJ.loopOut (fun e => nomatch e) (fun he88 => ?_)
    have h87 := congrArg some he88
    refine PJ.blockOut ?_
    obtain rfl := oi h87
    exact kN [4, 5]
  ·refine kSR ?_
   refine kC 2 [4] ?_
   refine kEN ?_
   refine kX ?_
   obtain rfl := oi h64
   exact kZ hFn hFH hFD
def rule_holding_s0 (x0 : List Int) (x1 : Int) : Option (Unit ⊕ Int) :=
 (bif (decide (x1 = 0)) then (some (.inl ())) else (Option.bind (oper_Mod x0 x1) fun y4 => (some (.inr y4))))
theorem rule_holding_s0_ok0 {x0 : List Int} {x1 : Int} {r : Unit} (h : rule_holding_s0 x0 x1 = some (.inl r)) : SC Tryd.prog 64 [lsv (encI .u8) 1 x0, .int .i64 x1] [] (.fn (.func 72) [] [.ptr 0 0]) [.box [lsv (encI .u8) 1 x0]] := by
 refine kFn (fn := Tryd.f64) (fun F hFn hFH hFD => ?_)
 unfold rule_holding_s0 at h
 refine kSR ?_
 refine kC 2 [1,2] ?_
 refine kEN ?_
 refine kS ?_
 refine kSR ?_
 refine kC 2 [1,2,7] ?_
 refine kEN ?_
 refine kBJ 7 h (fun h2 => ?_) (fun h3 => ?_)
 ·refine kT ?_
  refine kSR ?_
  refine kC 2 [1,2,4] ?_
  refine kEN ?_
  refine kX ?_
  refine PJ.passRet ?_
  obtain rfl := Sum.inl.inj (Option.some.inj h2)
  exact kV [0] hFn hFH hFD (v1 := .fn (.func 72) [] [.ptr 0 0])
 ·refine kF ?_
  refine kK ?_
  refine PJ.next ?_
  refine kSR ?_
  refine kC 2 [9,10] ?_
  obtain ⟨y4, hy5, h6⟩ := bindS h3
  refine kA 11 (oper_Mod_ok hy5) ?_
  refine kC 2 [5] ?_
  refine kEN ?_
  refine kSR ?_
  refine kC 2 [4] ?_
  refine kEN ?_
  refine kX ?_
  cases h6
theorem rule_holding_s0_ok1 {x0 : List Int} {x1 : Int} {r : Int} (h : rule_holding_s0 x0 x1 = some (.inr r)) : SC Tryd.prog 64 [lsv (encI .u8) 1 x0, .int .i64 x1] [] (.fn (.func 75) [] [.ptr 0 0]) [.box [.int .i64 r]] := by
 refine kFn (fn := Tryd.f64) (fun F hFn hFH hFD => ?_)
 unfold rule_holding_s0 at h
 refine kSR ?_
 refine kC 2 [1,2] ?_
 refine kEN ?_
 refine kS ?_
 refine kSR ?_
 refine kC 2 [1,2,7] ?_
 refine kEN ?_
 refine kBJ 7 h (fun h2 => ?_) (fun h3 => ?_)
 ·refine kT ?_
  refine kSR ?_
  refine kC 2 [1,2,4] ?_
  refine kEN ?_
  refine kX ?_
  refine PJ.passRet ?_
  cases h2
 ·refine kF ?_
  refine kK ?_
  refine PJ.next ?_
  refine kSR ?_
  refine kC 2 [9,10] ?_
  obtain ⟨y4, hy5, h6⟩ := bindS h3
  refine kA 11 (oper_Mod_ok hy5) ?_
  refine kC 2 [5] ?_
  refine kEN ?_
  refine kSR ?_
  refine kC 2 [4] ?_
  refine kEN ?_
  refine kX ?_
  obtain rfl := Sum.inr.inj (Option.some.inj h6)
  exact kV [1] hFn hFH hFD (v1 := .fn (.func 75) [] [.ptr 1 0])
def oper_In (x0 : List Int) (x1 : Int) (x2 : Int) : Option (Bool) :=
 (Option.bind (oper_strip x0) fun y1 => (Option.bind (Option.bind (bif (decide ((y1.length : Int) > 19)) then (some true) else (some (decide (x2 < 0)))) fun (s27 : Bool) => (bif s27 then (some (.inr false)) else (some (.inl ())))) (joinX fun (s19 : Unit) => (Option.bind (loopN (fun (s65 : Int × Int) => (bif (decide (s65.2 < (y1.length : Int))) then (bif inR s65.2 y1.length then (some (.inl ((IntKind.wrap .u64 ((IntKind.wrap .u64 (s65.1 * 10)) + (IntKind.wrap .u64 (nth y1 s65.2)))), (IntKind.wrap .i64 (s65.2 + 1))))) else none) else (some (.inr s65.1)))) big (0, 0)) fun (s60 : Int) => (Option.bind (bif (decide (s60 ≤ (IntKind.wrap .u64 x2))) then (some ((decide (s60 ≥ (IntKind.wrap .u64 (maxI x1 0)))))) else (some false)) fun (s89 : Bool) => (some s89))))))
theorem oper_In_ok {x0 : List Int} {x1 : Int} {x2 : Int} {r : Bool} (h : oper_In x0 x1 x2 = some r) : SC Tryd.prog 73 [lsv (encI .u8) 1 x0, .int .i64 x1, .int .i64 x2] [] (.bool r) [] := by
 refine kFn (fn := Tryd.f73) (fun F hFn hFH hFD => ?_)
 unfold oper_In at h
 refine kSR ?_
 refine kC 1 [0,1,2,6] ?_
 refine kEN ?_
 refine kSR ?_
 refine kC 1 [0,1,2,6,10] ?_
 obtain ⟨y1, hy2, h3⟩ := bindS h
 refine kA 11 (oper_strip_ok hy2) ?_
 refine kC 1 [0,1,2,6] ?_
 refine kEN ?_
 obtain ⟨y20, hy21, h22⟩ := bindS h3
 refine K.cutX (by kernel_rfl) (fun (s19 : Unit) => ([(0, lsv (encI .u8) 1 y1), (1, .int .i64 x1), (2, .int .i64 x2), (6, .bool false)], [])) y20 ?_ (fun s19 hs => ?_)
 ·obtain ⟨s27, hy29, h31⟩ := bindS hy21
  refine K.cutN (by kernel_rfl) (fun (s27 : Bool) => ([(0, lsv (encI .u8) 1 y1), (1, .int .i64 x1), (2, .int .i64 x2), (6, .bool false), (18, .bool s27)], [])) s27 ?_ ?_
  ·refine kR ?_
   refine kC 4 [0,1,2,6,15] ?_
   refine kB 15 hy29 (fun h33 => ?_) (fun h34 => ?_)
   ·refine kC 3 [0,1,2,6,18] ?_
    refine kE ?_
    obtain rfl := oi h33
    exact kN [0, 1, 2, 6, 18]
   ·refine kC 3 [0,1,2,6,18] ?_
    refine kE ?_
    obtain rfl := oi h34
    exact kN [0, 1, 2, 6, 18]
  ·refine kBJ 18 h31 (fun h36 => ?_) (fun h37 => ?_)
   ·refine kT ?_
    refine kSR ?_
    refine kC 1 [0,1,2,6] ?_
    refine kEN ?_
    refine kX ?_
    obtain rfl := oi h36
    have h38 := joinX_inr h22
    refine PJ.cutXr (fun e => nomatch e) ?_
    obtain rfl := oi h38
    exact kZ hFn hFH hFD
   ·refine kF ?_
    refine kK ?_
    obtain rfl := oi h37
    exact kXl [0, 1, 2, 6]
 ·subst hs
  have h23 := joinX_inl h22
  refine kSR ?_
  refine kC 1 [0,1,2,6,7] ?_
  refine kEN ?_
  obtain ⟨s60, hy62, h64⟩ := bindS h23
  refine K.cutN (by kernel_rfl) (fun (s60 : Int) => ([(1, .int .i64 x1), (2, .int .i64 x2), (6, .bool false), (7, .int .u64 s60)], [])) s60 ?_ ?_
  ·refine kSR ?_
   refine kC 3 [1,2,6,7,19,20,21] ?_
   refine kEN ?_
   refine kb 0 ?_
   refine kl (fun (s65 : Int × Int) => ([(1, .int .i64 x1), (2, .int .i64 x2), (6, .bool false), (7, .int .u64 s65.1), (19, lsv (encI .u8) 1 y1), (20, .int .i64 (y1.length : Int)), (21, .int .i64 s65.2)], [])) hy62 [1, 2, 6, 7, 19, 20, 21] (fun s65 x79 hs78 => ?_)
   refine kSR ?_
   refine kC 1 [1,2,6,7,19,20,21,22] ?_
   refine kEN ?_
   refine kS ?_
   refine kBJ 22 hs78 (fun h81 => ?_) (fun h82 => ?_)
   ·refine kT ?_
    refine kK ?_
    refine PJ.next ?_
    refine kS ?_
    refine kb 1 ?_
    refine kSR ?_
    obtain ⟨hm, h83⟩ := asrt h81
    refine kI 23 (encI_len .u8) hm ?_
    refine kC 2 [1,2,6,7,9,19,20,21] ?_
    refine kEN ?_
    refine kR ?_
    refine kC 6 [1,2,6,7,19,20,21] ?_
    refine kE ?_
    refine PJ.blockNormal ?_
    refine PJ.next ?_
    refine kR ?_
    refine kC 2 [1,2,6,7,19,20,21] ?_
    refine kE ?_
    obtain rfl := oi h83
    exact kLN [1, 2, 6, 7, 19, 20, 21]
   ·refine kF ?_
    refine K.exit 0 (by kernel_rfl) ?_
    refine PJ.passExit ?_
    obtain rfl := oi h82
    refine PJ.loopOut (fun e => nomatch e) (fun he85 => ?_)
    have h84 := congrArg some he85
    refine PJ.blockOut ?_
    obtain rfl := oi h84
    exact kN [1, 2, 6, 7]
  ·obtain ⟨s89, hy91, h93⟩ := bindS h64
   refine K.cutN (by kernel_rfl) (fun (s89 : Bool) => ([(6, .bool s89)], [])) s89 ?_ ?_
   ·refine kR ?_
    refine kC 5 [1,6,7,35] ?_
    refine kB 35 hy91 (fun h95 => ?_) (fun h96 => ?_)
    ·refine kC 7 [6] ?_
     refine kE ?_
     obtain rfl := oi h95
     exact kN [6]
    ·refine kC 7 [6] ?_
     refine kE ?_
     obtain rfl := oi h96
     exact kN [6]
   ·refine kX ?_
    obtain rfl := oi h93
    exact kZ hFn hFH hFD
def rule_holding_1_s0 (x0 : St73) (x1 : List Int) : Option (Bool) :=
 (Option.bind (oper_In x1 x0.a0_ x0.a1_) fun y1 => (some y1))
theorem rule_holding_1_s0_ok {x0 : St73} {x1 : List Int} {r : Bool} (h : rule_holding_1_s0 x0 x1 = some r) : SC Tryd.prog 72 [.agg (encSt73 x0), .ptr 0 0] [.box [lsv (encI .u8) 1 x1]] (.bool r) [.box [lsv (encI .u8) 1 x1]] := by
 refine kFn (fn := Tryd.f72) (fun F hFn hFH hFD => ?_)
 unfold rule_holding_1_s0 at h
 refine kSR ?_
 refine kC 2 [1,2,3] ?_
 refine kEN ?_
 refine kSR ?_
 refine kC 5 [3,4,6,8] ?_
 obtain ⟨y1, hy2, h3⟩ := bindS h
 refine kA 9 (oper_In_ok hy2) ?_
 refine kC 1 [3] ?_
 refine kEN ?_
 refine kX ?_
 obtain rfl := oi h3
 exact kV [0] hFn hFH hFD (v1 := .bool y1)
def slices_IndexFunc_s0 (x0 : List St73) (x1 : List Int) : Option (Int) :=
 (Option.bind (loopN (fun (s54 : Int) => (bif (decide (s54 < (x0.length : Int))) then (bif inR s54 x0.length then (Option.bind (rule_holding_1_s0 (nth x0 s54) x1) fun y91 => (bif y91 then (some (.inr (.inr s54))) else (some (.inl (IntKind.wrap .i64 (s54 + 1)))))) else none) else (some (.inr (.inl ()))))) big 0) (joinX fun (s49 : Unit) => (some (-1))))
theorem slices_IndexFunc_s0_ok {x0 : List St73} {x1 : List Int} {r : Int} (h : slices_IndexFunc_s0 x0 x1 = some r) : SC Tryd.prog 71 [lsv encSt73 2 x0, .fn (.func 72) [] [.ptr 0 0]] [.box [lsv (encI .u8) 1 x1]] (.int .i64 r) [.box [lsv (encI .u8) 1 x1]] := by
 refine kFn (fn := Tryd.f71) (fun F hFn hFH hFD => ?_)
 unfold slices_IndexFunc_s0 at h
 refine kSR ?_
 refine kC 1 [0,1,4] ?_
 refine kEN ?_
 obtain ⟨y50, hy51, h52⟩ := bindS h
 refine K.cutX (by kernel_rfl) (fun (s49 : Unit) => ([(4, .int .i64 0)], [.box [lsv (encI .u8) 1 x1]])) y50 ?_ (fun s49 hs => ?_)
 ·refine kSR ?_
  refine kC 3 [0,1,4,7,8] ?_
  refine kEN ?_
  refine kb 0 ?_
  refine kl (fun (s54 : Int) => ([(0, lsv encSt73 2 x0), (1, .fn (.func 72) [] [.ptr 0 0]), (4, .int .i64 0), (7, .int .i64 (x0.length : Int)), (8, .int .i64 s54)], [.box [lsv (encI .u8) 1 x1]])) hy51 [0, 1, 4, 7, 8] (fun s54 x86 hs85 => ?_)
  refine kSR ?_
  refine kC 1 [0,1,4,7,8,9] ?_
  refine kEN ?_
  refine kS ?_
  refine kBJ 9 hs85 (fun h88 => ?_) (fun h89 => ?_)
  ·refine kT ?_
   refine kK ?_
   refine PJ.next ?_
   refine kS ?_
   refine kb 1 ?_
   refine kSR ?_
   refine kC 2 [0,1,4,5,7,8] ?_
   refine kEN ?_
   refine kSR ?_
   refine kC 3 [0,1,4,5,7,8,11,12,13] ?_
   obtain ⟨hm, h90⟩ := asrt h88
   refine kI 14 encSt73_len hm ?_
   refine kC 1 [0,1,4,5,7,8,11,15] ?_
   obtain ⟨y91, hy92, h93⟩ := bindS h90
   refine kCG (some 16) (args := [.agg [.int .i64 ((nth x0 s54).a0_), .int .i64 ((nth x0 s54).a1_)], .ptr 0 0]) (v := .bool y91) (H2 := [.box [lsv (encI .u8) 1 x1]]) [0] (rule_holding_1_s0_ok hy92) ?_
   refine kEN ?_
   refine kBJ 16 h93 (fun h95 => ?_) (fun h96 => ?_)
   ·refine kT ?_
    refine kSR ?_
    refine kC 2 [0,1,4,7,8] ?_
    refine kEN ?_
    refine kX ?_
    refine PJ.blockRet ?_
    refine PJ.passRet ?_
    obtain rfl := oi h95
    refine PJ.loopOut (fun e => nomatch e) (fun he99 => ?_)
    have h97 := congrArg some he99
    refine PJ.blockRet ?_
    obtain rfl := oi h97
    have h98 := joinX_inr h52
    refine PJ.cutXr (fun e => nomatch e) ?_
    obtain rfl := oi h98
    exact kV [0] hFn hFH hFD (v1 := .int .i64 s54)
   ·refine kF ?_
    refine kK ?_
    refine PJ.blockNormal ?_
    refine PJ.next ?_
    refine kR ?_
    refine kC 2 [0,1,4,7,8] ?_
    refine kE ?_
    obtain rfl := oi h96
    exact kLN [0, 1, 4, 7, 8]
  ·refine kF ?_
   refine K.exit 0 (by kernel_rfl) ?_
   refine PJ.passExit ?_
   obtain rfl := oi h89
   refine PJ.loopOut (fun e => nomatch e) (fun he101 => ?_)
   have h100 := congrArg some he101
   refine PJ.blockOut ?_
   obtain rfl := oi h100
   exact kXl [4]
 ·subst hs
  have h53 := joinX_inl h52
  refine kSR ?_
  refine kC 1 [4] ?_
  refine kEN ?_
  refine kX ?_
  obtain rfl := oi h53
  exact kV [0] hFn hFH hFD (v1 := .int .i64 (-1))
def slices_ContainsFunc_s0 (x0 : List St73) (x1 : List Int) : Option (Bool) :=
 (Option.bind (slices_IndexFunc_s0 x0 x1) fun y1 => (some (decide (y1 ≥ 0))))
theorem slices_ContainsFunc_s0_ok {x0 : List St73} {x1 : List Int} {r : Bool} (h : slices_ContainsFunc_s0 x0 x1 = some r) : SC Tryd.prog 63 [lsv encSt73 2 x0, .fn (.func 72) [] [.ptr 0 0]] [.box [lsv (encI .u8) 1 x1]] (.bool r) [.box [lsv (encI .u8) 1 x1]] := by
 refine kFn (fn := Tryd.f63) (fun F hFn hFH hFD => ?_)
 unfold slices_ContainsFunc_s0 at h
 refine kSR ?_
 refine kC 1 [0,1,4] ?_
 refine kEN ?_
 refine kSR ?_
 refine kC 2 [4,5,6] ?_
 obtain ⟨y1, hy2, h3⟩ := bindS h
 refine kCG (some 7) (args := [lsv encSt73 2 x0, .fn (.func 72) [] [.ptr 0 0]]) (v := .int .i64 y1) (H2 := [.box [lsv (encI .u8) 1 x1]]) [0] (slices_IndexFunc_s0_ok hy2) ?_
 refine kC 2 [4] ?_
 refine kEN ?_
 refine kX ?_
 obtain rfl := oi h3
 exact kV [0] hFn hFH hFD (v1 := .bool (decide (y1 ≥ 0)))
def rule_holding_2_s0 (x0 : St73) (x1 : Int) : Option (Bool) :=
 (Option.bind (bif (decide (x0.a0_ ≤ x1)) then (some (decide (x1 ≤ x0.a1_))) else (some false)) fun (s4 : Bool) => (some s4))
theorem rule_holding_2_s0_ok {x0 : St73} {x1 : Int} {r : Bool} (h : rule_holding_2_s0 x0 x1 = some r) : SC Tryd.prog 75 [.agg (encSt73 x0), .ptr 0 0] [.box [.int .i64 x1]] (.bool r) [.box [.int .i64 x1]] := by
 refine kFn (fn := Tryd.f75) (fun F hFn hFH hFD => ?_)
 unfold rule_holding_2_s0 at h
 refine kSR ?_
 refine kC 2 [1,2,3] ?_
 refine kEN ?_
 obtain ⟨s4, hy6, h8⟩ := bindS h
 refine K.cutN (by kernel_rfl) (fun (s4 : Bool) => ([(3, .bool s4)], [.box [.int .i64 x1]])) s4 ?_ ?_
 ·refine kR ?_
  refine kC 5 [1,2,3,8] ?_
  refine kB 8 hy6 (fun h10 => ?_) (fun h11 => ?_)
  ·refine kC 6 [3] ?_
   refine kE ?_
   obtain rfl := oi h10
   refine kW (L2 := [(3, .bool (decide (x1 ≤ x0.a1_)))]) (H2 := [.box [.int .i64 x1]]) hFH hFD [0] ?_
   exact kN [3]
  ·refine kC 6 [3] ?_
   refine kE ?_
   obtain rfl := oi h11
   refine kW (L2 := [(3, .bool false)]) (H2 := [.box [.int .i64 x1]]) hFH hFD [0] ?_
   exact kN [3]
 ·refine kX ?_
  obtain rfl := oi h8
  exact kV [0] hFn hFH hFD (v1 := .bool s4)
def slices_IndexFunc_s1 (x0 : List St73) (x1 : Int) : Option (Int) :=
 (Option.bind (loopN (fun (s54 : Int) => (bif (decide (s54 < (x0.length : Int))) then (bif inR s54 x0.length then (Option.bind (rule_holding_2_s0 (nth x0 s54) x1) fun y91 => (bif y91 then (some (.inr (.inr s54))) else (some (.inl (IntKind.wrap .i64 (s54 + 1)))))) else none) else (some (.inr (.inl ()))))) big 0) (joinX fun (s49 : Unit) => (some (-1))))
theorem slices_IndexFunc_s1_ok {x0 : List St73} {x1 : Int} {r : Int} (h : slices_IndexFunc_s1 x0 x1 = some r) : SC Tryd.prog 71 [lsv encSt73 2 x0, .fn (.func 75) [] [.ptr 0 0]] [.box [.int .i64 x1]] (.int .i64 r) [.box [.int .i64 x1]] := by
 refine kFn (fn := Tryd.f71) (fun F hFn hFH hFD => ?_)
 unfold slices_IndexFunc_s1 at h
 refine kSR ?_
 refine kC 1 [0,1,4] ?_
 refine kEN ?_
 obtain ⟨y50, hy51, h52⟩ := bindS h
 refine K.cutX (by kernel_rfl) (fun (s49 : Unit) => ([(4, .int .i64 0)], [.box [.int .i64 x1]])) y50 ?_ (fun s49 hs => ?_)
 ·refine kSR ?_
  refine kC 3 [0,1,4,7,8] ?_
  refine kEN ?_
  refine kb 0 ?_
  refine kl (fun (s54 : Int) => ([(0, lsv encSt73 2 x0), (1, .fn (.func 75) [] [.ptr 0 0]), (4, .int .i64 0), (7, .int .i64 (x0.length : Int)), (8, .int .i64 s54)], [.box [.int .i64 x1]])) hy51 [0, 1, 4, 7, 8] (fun s54 x86 hs85 => ?_)
  refine kSR ?_
  refine kC 1 [0,1,4,7,8,9] ?_
  refine kEN ?_
  refine kS ?_
  refine kBJ 9 hs85 (fun h88 => ?_) (fun h89 => ?_)
  ·refine kT ?_
   refine kK ?_
   refine PJ.next ?_
   refine kS ?_
   refine kb 1 ?_
   refine kSR ?_
   refine kC 2 [0,1,4,5,7,8] ?_
   refine kEN ?_
   refine kSR ?_
   refine kC 3 [0,1,4,5,7,8,11,12,13] ?_
   obtain ⟨hm, h90⟩ := asrt h88
   refine kI 14 encSt73_len hm ?_
   refine kC 1 [0,1,4,5,7,8,11,15] ?_
   obtain ⟨y91, hy92, h93⟩ := bindS h90
   refine kCG (some 16) (args := [.agg [.int .i64 ((nth x0 s54).a0_), .int .i64 ((nth x0 s54).a1_)], .ptr 0 0]) (v := .bool y91) (H2 := [.box [.int .i64 x1]]) [0] (rule_holding_2_s0_ok hy92) ?_
   refine kEN ?_
   refine kBJ 16 h93 (fun h95 => ?_) (fun h96 => ?_)
   ·refine kT ?_
    refine kSR ?_
    refine kC 2 [0,1,4,7,8] ?_
    refine kEN ?_
    refine kX ?_
    refine PJ.blockRet ?_
    refine PJ.passRet ?_
    obtain rfl := oi h95
    refine PJ.loopOut (fun e => nomatch e) (fun he99 => ?_)
    have h97 := congrArg some he99
    refine PJ.blockRet ?_
    obtain rfl := oi h97
    have h98 := joinX_inr h52
    refine PJ.cutXr (fun e => nomatch e) ?_
    obtain rfl := oi h98
    exact kV [0] hFn hFH hFD (v1 := .int .i64 s54)
   ·refine kF ?_
    refine kK ?_
    refine PJ.blockNormal ?_
    refine PJ.next ?_
    refine kR ?_
    refine kC 2 [0,1,4,7,8] ?_
    refine kE ?_
    obtain rfl := oi h96
    exact kLN [0, 1, 4, 7, 8]
  ·refine kF ?_
   refine K.exit 0 (by kernel_rfl) ?_
   refine PJ.passExit ?_
   obtain rfl := oi h89
   refine PJ.loopOut (fun e => nomatch e) (fun he101 => ?_)
   have h100 := congrArg some he101
   refine PJ.blockOut ?_
   obtain rfl := oi h100
   exact kXl [4]
 ·subst hs
  have h53 := joinX_inl h52
  refine kSR ?_
  refine kC 1 [4] ?_
  refine kEN ?_
  refine kX ?_
  obtain rfl := oi h53
  exact kV [0] hFn hFH hFD (v1 := .int .i64 (-1))
def slices_ContainsFunc_s1 (x0 : List St73) (x1 : Int) : Option (Bool) :=
 (Option.bind (slices_IndexFunc_s1 x0 x1) fun y1 => (some (decide (y1 ≥ 0))))
theorem slices_ContainsFunc_s1_ok {x0 : List St73} {x1 : Int} {r : Bool} (h : slices_ContainsFunc_s1 x0 x1 = some r) : SC Tryd.prog 63 [lsv encSt73 2 x0, .fn (.func 75) [] [.ptr 0 0]] [.box [.int .i64 x1]] (.bool r) [.box [.int .i64 x1]] := by
 refine kFn (fn := Tryd.f63) (fun F hFn hFH hFD => ?_)
 unfold slices_ContainsFunc_s1 at h
 refine kSR ?_
 refine kC 1 [0,1,4] ?_
 refine kEN ?_
 refine kSR ?_
 refine kC 2 [4,5,6] ?_
 obtain ⟨y1, hy2, h3⟩ := bindS h
 refine kCG (some 7) (args := [lsv encSt73 2 x0, .fn (.func 75) [] [.ptr 0 0]]) (v := .int .i64 y1) (H2 := [.box [.int .i64 x1]]) [0] (slices_IndexFunc_s1_ok hy2) ?_
 refine kC 2 [4] ?_
 refine kEN ?_
 refine kX ?_
 obtain rfl := oi h3
 exact kV [0] hFn hFH hFD (v1 := .bool (decide (y1 ≥ 0)))
def rule_asks_1_s0 (x0 : St71) (x1 : List Int) (x2 : List Int) (x3 : Int) (x4 : Int) : Option (Bool) :=
 (Option.bind (oper_Operand (⟨x1, x2, x3, x4⟩ : St41) x0.Op_) fun y1 => (Option.bind (bif y1.2 then (Option.bind (rule_holding_s0 y1.1 x0.Mod_) fun y29 => (Sum.elim (fun y32 => (Option.bind (slices_ContainsFunc_s0 x0.R_ y1.1) fun y36 => (some y36))) (fun y33 => (Option.bind (slices_ContainsFunc_s1 x0.R_ y33) fun y40 => (some y40))) y29)) else (some false)) fun (s21 : Bool) => (some (s21 != x0.Not_))))
theorem rule_asks_1_s0_ok {x0 : St71} {x1 : List Int} {x2 : List Int} {x3 : Int} {x4 : Int} {r : Bool} (h : rule_asks_1_s0 x0 x1 x2 x3 x4 = some r) : SC Tryd.prog 61 [.agg (encSt71 x0), .ptr 0 0] [.box [lsv (encI .u8) 1 x1, lsv (encI .u8) 1 x2, .int .i64 x3, .int .i64 x4]] (.bool r) [.box [lsv (encI .u8) 1 x1, lsv (encI .u8) 1 x2, .int .i64 x3, .int .i64 x4]] := by
 refine kFn (fn := Tryd.f61) (fun F hFn hFH hFD => ?_)
 unfold rule_asks_1_s0 at h
 refine kSR ?_
 refine kC 2 [1,2,3] ?_
 refine kEN ?_
 refine kSR ?_
 refine kC 3 [2,3,8,10] ?_
 obtain ⟨y1, hy2, h3⟩ := bindS h
 refine kA 11 (oper_Operand_ok hy2) ?_
 refine kC 5 [2,3,4,5] ?_
 refine kEN ?_
 obtain ⟨s21, hy23, h25⟩ := bindS h3
 refine K.cutN (by kernel_rfl) (fun (s21 : Bool) => ([(2, .ptr 1 0), (3, .bool false), (6, .bool s21)], [.box [lsv (encI .u8) 1 x1, lsv (encI .u8) 1 x2, .int .i64 x3, .int .i64 x4], .box (encSt71 x0)])) s21 ?_ ?_
 ·refine J.keep [2, 3, 4, 5] (L2 := [(2, .ptr 1 0), (3, .bool false), (4, lsv (encI .u8) 1 y1.1), (5, .bool y1.2)]) (by kernel_rfl) ?_
  refine K.draw (by kernel_rfl) (by kernel_rfl) (by kernel_rfl) (H2 := [.box [lsv (encI .u8) 1 x1, lsv (encI .u8) 1 x2, .int .i64 x3, .int .i64 x4], .box (encSt71 x0), .res, .res]) (by kernel_rfl) (n := 2) (by kernel_rfl) ?_
  refine kD 2 ?_
  refine kB 15 hy23 (fun h27 => ?_) (fun h28 => ?_)
  ·refine kD 5 ?_
   obtain ⟨y29, hy30, h31⟩ := bindS h27
   rcases y29 with y32 | y33
   ·have h34 := elimL h31
    refine RJ.callM (d := (some 21)) (f := 64) (args := [lsv (encI .u8) 1 y1.1, .int .i64 x0.Mod_]) (v0 := .fn (.func 72) [] [.ptr 0 0]) (v := .fn (.func 72) [] [.ptr 2 0]) (en0 := .box [lsv (encI .u8) 1 y1.1]) (tr2 := [([], []), ([], []), ([], []), ([2, 3], []), ([], []), ([], []), ([2, 3], []), ([], [4, 5, 4, 5])]) (H2 := [.box [lsv (encI .u8) 1 x1, lsv (encI .u8) 1 x2, .int .i64 x3, .int .i64 x4], .box (encSt71 x0), .box [lsv (encI .u8) 1 y1.1], .res]) 2 (by kernel_rfl) (by kernel_rfl) (by kernel_rfl) (by kernel_rfl) (.cons (Le.refl _) (.cons (Le.refl _) .nil)) (rule_holding_s0_ok0 hy30) (by kernel_rfl) (by kernel_rfl) ?_ (hE := ern_box (by kernel_rfl))
    obtain ⟨y36, hy37, h38⟩ := bindS h34
    refine RJ.callU (d := (some 22)) (f := 63) (args := [lsv encSt73 2 x0.R_, .fn (.func 72) [] [.ptr 2 0]]) (args0 := [lsv encSt73 2 x0.R_, .fn (.func 72) [] [.ptr 0 0]]) (v := .bool y36) (tr2 := [([], []), ([], []), ([], []), ([2, 3], []), ([], []), ([], []), ([2, 3], []), ([], [4, 5, 4, 5]), ([4, 5], [6, 7])]) (H0 := [.box [lsv (encI .u8) 1 y1.1]]) [2] (by kernel_rfl) (by kernel_rfl) (by kernel_rfl) (by kernel_rfl) (by decide) (by kernel_rfl) (by kernel_rfl) (by kernel_rfl) (.cons (Le.refl _) (.cons (Le.refl _) .nil)) (slices_ContainsFunc_s0_ok hy37) (by kernel_rfl) ?_
    refine kD 2 ?_
    refine kE ?_
    obtain rfl := oi h38
    refine kW (L2 := [(2, .ptr 1 0), (3, .bool false), (6, .bool y36)]) (H2 := [.box [lsv (encI .u8) 1 x1, lsv (encI .u8) 1 x2, .int .i64 x3, .int .i64 x4], .box (encSt71 x0)]) hFH hFD [0, 1] ?_
    exact kN [2, 3, 6]
   ·have h35 := elimR h31
    refine RJ.callM (d := (some 21)) (f := 64) (args := [lsv (encI .u8) 1 y1.1, .int .i64 x0.Mod_]) (v0 := .fn (.func 75) [] [.ptr 0 0]) (v := .fn (.func 75) [] [.ptr 2 0]) (en0 := .box [.int .i64 y33]) (tr2 := [([], []), ([], []), ([], []), ([2, 3], []), ([], []), ([], []), ([2, 3], []), ([], [4, 5, 4, 5])]) (H2 := [.box [lsv (encI .u8) 1 x1, lsv (encI .u8) 1 x2, .int .i64 x3, .int .i64 x4], .box (encSt71 x0), .box [.int .i64 y33], .res]) 2 (by kernel_rfl) (by kernel_rfl) (by kernel_rfl) (by kernel_rfl) (.cons (Le.refl _) (.cons (Le.refl _) .nil)) (rule_holding_s0_ok1 hy30) (by kernel_rfl) (by kernel_rfl) ?_ (hE := ern_box (by kernel_rfl))
    obtain ⟨y40, hy41, h42⟩ := bindS h35
    refine RJ.callU (d := (some 22)) (f := 63) (args := [lsv encSt73 2 x0.R_, .fn (.func 75) [] [.ptr 2 0]]) (args0 := [lsv encSt73 2 x0.R_, .fn (.func 75) [] [.ptr 0 0]]) (v := .bool y40) (tr2 := [([], []), ([], []), ([], []), ([2, 3], []), ([], []), ([], []), ([2, 3], []), ([], [4, 5, 4, 5]), ([4, 5], [6, 7])]) (H0 := [.box [.int .i64 y33]]) [2] (by kernel_rfl) (by kernel_rfl) (by kernel_rfl) (by kernel_rfl) (by decide) (by kernel_rfl) (by kernel_rfl) (by kernel_rfl) (.cons (Le.refl _) (.cons (Le.refl _) .nil)) (slices_ContainsFunc_s1_ok hy41) (by kernel_rfl) ?_
    refine kD 2 ?_
    refine kE ?_
    obtain rfl := oi h42
    refine kW (L2 := [(2, .ptr 1 0), (3, .bool false), (6, .bool y40)]) (H2 := [.box [lsv (encI .u8) 1 x1, lsv (encI .u8) 1 x2, .int .i64 x3, .int .i64 x4], .box (encSt71 x0)]) hFH hFD [0, 1] ?_
    exact kN [2, 3, 6]
  ·refine kD 9 ?_
   refine kE ?_
   obtain rfl := oi h28
   refine kW (L2 := [(2, .ptr 1 0), (3, .bool false), (6, .bool false)]) (H2 := [.box [lsv (encI .u8) 1 x1, lsv (encI .u8) 1 x2, .int .i64 x3, .int .i64 x4], .box (encSt71 x0)]) hFH hFD [0, 1] ?_
   exact kN [2, 3, 6]
 ·refine kSR ?_
  refine kC 5 [3] ?_
  refine kEN ?_
  refine kX ?_
  obtain rfl := oi h25
  exact kV [0] hFn hFH hFD (v1 := .bool (s21 != x0.Not_))
def rule_Holds (x0 : List (List St71)) (x1 : St41) : Option (Bool) :=
 (Option.bind (rule_asks_s0 x1) fun y1 => (Option.bind (loopN (fun (s678 : Int) => (bif (decide (s678 < (x0.length : Int))) then (Option.bind (bif inR s678 x0.length then (Option.bind (loopN (fun (s1293 : Int) => (bif (decide (s1293 < ((nth x0 s678).length : Int))) then (bif inR s1293 (nth x0 s678).length then (Option.bind (rule_asks_1_s0 (nth (nth x0 s678) s1293) x1.I_ x1.F_ x1.W_ x1.C_) fun y1330 => (bif (!y1330) then (some (.inr (.inr (.inl ())))) else (some (.inl (IntKind.wrap .i64 (s1293 + 1)))))) else none) else (some (.inr (.inl ()))))) big 0) (joinX fun (s1288 : Unit) => (some (.inr (.inr (.inr true)))))) else none) (joinX fun (s1234 : Unit) => (some (.inl (IntKind.wrap .i64 (s678 + 1)))))) else (some (.inr (.inl ()))))) big 0) (joinX fun (s673 : Unit) => (some false))))
theorem rule_Holds_ok {x0 : List (List St71)} {x1 : St41} {r : Bool} (h : rule_Holds x0 x1 = some r) : SC Tryd.prog 40 [lsv (encL encSt71 4) 1 x0, .agg (encSt41 x1)] [] (.bool r) [] := by
 refine kFn (fn := Tryd.f40) (fun F hFn hFH hFD => ?_)
 unfold rule_Holds at h
 refine kSR ?_
 refine kC 2 [0,3,4] ?_
 refine kEN ?_
 refine K.scope (by kernel_rfl) ?_
 refine kSR ?_
 refine kC 1 [0,4,10] ?_
 obtain ⟨y1, hy2, h3⟩ := bindS h
 refine kCG (some 11) (args := [.agg (encSt41 x1)]) (v := .fn (.func 61) [] [.ptr 1 0]) (H2 := [.box (encSt41 x1), .box (encSt41 x1)]) [] (rule_asks_s0_ok hy2) ?_
 refine kC 1 [0,4,5] ?_
 refine kEN ?_
 refine kS ?_
 refine K.label (by kernel_rfl) ?_
 refine PJ.next ?_
 obtain ⟨y674, hy675, h676⟩ := bindS h3
 refine K.cutX (by kernel_rfl) (fun (s673 : Unit) => ([(4, .bool false)], [])) y674 ?_ (fun s673 hs => ?_)
 ·refine kSR ?_
  refine kC 3 [4,5,12,13,14] ?_
  refine kEN ?_
  refine kb 0 ?_
  refine J.wk (Wk.sel (L2 := [(4, .bool false), (5, .fn (.func 61) [] [.ptr 0 0]), (12, lsv (encL encSt71 4) 1 x0), (13, .int .i64 (x0.length : Int)), (14, .int .i64 0)]) (H2 := [.box (encSt41 x1)]) 0 (by rw [hFH]; rfl) hFD [1] (by kernel_rfl) (by kernel_rfl) (by decide) (by kernel_rfl) (by kernel_rfl) (by kernel_rfl) (by kernel_rfl)) ?_
  refine kl (fun (s678 : Int) => ([(4, .bool false), (5, .fn (.func 61) [] [.ptr 0 0]), (12, lsv (encL encSt71 4) 1 x0), (13, .int .i64 (x0.length : Int)), (14, .int .i64 s678)], [.box (encSt41 x1)])) hy675 [4, 5, 12, 13, 14] (fun s678 x1124 hs1123 => ?_)
  refine kSR ?_
  refine kC 1 [4,5,12,13,14,15] ?_
  refine kEN ?_
  refine kS ?_
  refine kBJ 15 hs1123 (fun h1126 => ?_) (fun h1127 => ?_)
  ·refine kT ?_
   refine kK ?_
   refine PJ.next ?_
   obtain ⟨y1235, hy1236, h1237⟩ := bindS h1126
   refine K.cutX (by kernel_rfl) (fun (s1234 : Unit) => ([(4, .bool false), (5, .fn (.func 61) [] [.ptr 0 0]), (12, lsv (encL encSt71 4) 1 x0), (13, .int .i64 (x0.length : Int)), (14, .int .i64 s678)], [.box (encSt41 x1)])) y1235 ?_ (fun s1234 hs => ?_)
   ·refine kb 1 ?_
    refine kSR ?_
    obtain ⟨hm, h1239⟩ := asrt hy1236
    refine kI 16 (encL_len encSt71 4) hm ?_
    refine kC 2 [4,5,7,12,13,14] ?_
    refine kEN ?_
    obtain ⟨y1289, hy1290, h1291⟩ := bindS h1239
    refine K.cutX (by kernel_rfl) (fun (s1288 : Unit) => ([(4, .bool false), (5, .fn (.func 61) [] [.ptr 0 0]), (12, lsv (encL encSt71 4) 1 x0), (13, .int .i64 (x0.length : Int)), (14, .int .i64 s678)], [.box (encSt41 x1)])) y1289 ?_ (fun s1288 hs => ?_)
    ·refine kSR ?_
     refine kC 3 [4,5,12,13,14,18,19,20] ?_
     refine kEN ?_
     refine kb 2 ?_
     refine kl (fun (s1293 : Int) => ([(4, .bool false), (5, .fn (.func 61) [] [.ptr 0 0]), (12, lsv (encL encSt71 4) 1 x0), (13, .int .i64 (x0.length : Int)), (14, .int .i64 s678), (18, lsv encSt71 4 (nth x0 s678)), (19, .int .i64 ((nth x0 s678).length : Int)), (20, .int .i64 s1293)], [.box (encSt41 x1)])) hy1290 [4, 5, 12, 13, 14, 18, 19, 20] (fun s1293 x1325 hs1324 => ?_)
     refine kSR ?_
     refine kC 1 [4,5,12,13,14,18,19,20,21] ?_
     refine kEN ?_
     refine kS ?_
     refine kBJ 21 hs1324 (fun h1327 => ?_) (fun h1328 => ?_)
     ·refine kT ?_
      refine kK ?_
      refine PJ.next ?_
      refine kS ?_
      refine kb 3 ?_
      refine kSR ?_
      obtain ⟨hm, h1329⟩ := asrt h1327
      refine kI 22 encSt71_len hm ?_
      refine kC 3 [4,5,9,12,13,14,18,19,20] ?_
      refine kEN ?_
      refine kSR ?_
      refine kC 2 [4,5,12,13,14,18,19,20,24,25] ?_
      obtain ⟨y1330, hy1331, h1332⟩ := bindS h1329
      refine kCG (some 26) (args := [.agg [.int .u8 ((nth (nth x0 s678) s1293).Op_), .int .i64 ((nth (nth x0 s678) s1293).Mod_), .bool ((nth (nth x0 s678) s1293).Not_), lsv encSt73 2 ((nth (nth x0 s678) s1293).R_)], .ptr 0 0]) (v := .bool y1330) (H2 := [.box (encSt41 x1), .box [.int .u8 ((nth (nth x0 s678) s1293).Op_), .int .i64 ((nth (nth x0 s678) s1293).Mod_), .bool ((nth (nth x0 s678) s1293).Not_), lsv encSt73 2 ((nth (nth x0 s678) s1293).R_)]]) [0] (rule_asks_1_s0_ok hy1331) ?_
      refine kC 1 [4,5,12,13,14,18,19,20,27] ?_
      refine kEN ?_
      refine kBJ 27 h1332 (fun h1334 => ?_) (fun h1335 => ?_)
      ·refine kT ?_
       refine K.exit 1 (by kernel_rfl) ?_
       refine PJ.blockPass (by kernel_rfl) ?_
       refine PJ.passExit ?_
       obtain rfl := oi h1334
       refine PJ.loopOut (fun e => nomatch e) (fun he1338 => ?_)
       have h1336 := congrArg some he1338
       refine PJ.blockPass (by kernel_rfl) ?_
       obtain rfl := oi h1336
       have h1337 := joinX_inr h1291
       refine PJ.cutXr (fun e => nomatch e) ?_
       refine PJ.blockOut ?_
       obtain rfl := oi h1337
       refine kW (L2 := [(4, .bool false), (5, .fn (.func 61) [] [.ptr 0 0]), (12, lsv (encL encSt71 4) 1 x0), (13, .int .i64 (x0.length : Int)), (14, .int .i64 s678)]) (H2 := [.box (encSt41 x1)]) hFH hFD [0] ?_
       exact kXl [4, 5, 12, 13, 14]
      ·refine kF ?_
       refine kK ?_
       refine PJ.blockNormal ?_
       refine PJ.next ?_
       refine kR ?_
       refine kC 2 [4,5,12,13,14,18,19,20] ?_
       refine kE ?_
       obtain rfl := oi h1335
       refine kW (L2 := [(4, .bool false), (5, .fn (.func 61) [] [.ptr 0 0]), (12, lsv (encL encSt71 4) 1 x0), (13, .int .i64 (x0.length : Int)), (14, .int .i64 s678), (18, lsv encSt71 4 (nth x0 s678)), (19, .int .i64 ((nth x0 s678).length : Int)), (20, .int .i64 (IntKind.wrap .i64 (s1293 + 1)))]) (H2 := [.box (encSt41 x1)]) hFH hFD [0] ?_
       exact kLN [4, 5, 12, 13, 14, 18, 19, 20]
     ·refine kF ?_
      refine K.exit 2 (by kernel_rfl) ?_
      refine PJ.passExit ?_
      obtain rfl := oi h1328
      refine PJ.loopOut (fun e => nomatch e) (fun he1340 => ?_)
      have h1339 := congrArg some he1340
      refine PJ.blockOut ?_
      obtain rfl := oi h1339
      exact kXl [4, 5, 12, 13, 14]
    ·subst hs
     have h1292 := joinX_inl h1291
     refine kSR ?_
     refine kC 1 [4,5,12,13,14] ?_
     refine kEN ?_
     refine kX ?_
     refine PJ.blockRet ?_
     obtain rfl := oi h1292
     have h1341 := joinX_inr h1237
     refine PJ.cutXr (fun e => nomatch e) ?_
     obtain rfl := oi h1341
     refine PJ.loopOut (fun e => nomatch e) (fun he1344 => ?_)
     have h1342 := congrArg some he1344
     refine PJ.blockRet ?_
     obtain rfl := oi h1342
     have h1343 := joinX_inr h676
     refine PJ.cutXr (fun e => nomatch e) ?_
     refine PJ.scR ?_
     obtain rfl := oi h1343
     exact kZ hFn hFH hFD
   ·subst hs
    have h1238 := joinX_inl h1237
    refine kR ?_
    refine kC 2 [4,5,12,13,14] ?_
    refine kE ?_
    obtain rfl := oi h1238
    exact kLN [4, 5, 12, 13, 14]
  ·refine kF ?_
   refine K.exit 0 (by kernel_rfl) ?_
   refine PJ.passExit ?_
   obtain rfl := oi h1127
   refine PJ.loopOut (fun e => nomatch e) (fun he1346 => ?_)
   have h1345 := congrArg some he1346
   refine PJ.blockOut ?_
   obtain rfl := oi h1345
   refine kW (L2 := [(4, .bool false)]) (H2 := []) hFH hFD [] ?_
   exact kXl [4]
 ·subst hs
  have h677 := joinX_inl h676
  refine kSR ?_
  refine kC 1 [4] ?_
  refine kEN ?_
  refine kX ?_
  refine PJ.scR ?_
  obtain rfl := oi h677
  exact kZ hFn hFH hFD
def plur_Of (x0 : List St36) (x1 : St41) : Option (Int) :=
 (Option.bind (loopN (fun (s1 : Int) => (bif (decide (s1 < (x0.length : Int))) then (bif inR s1 x0.length then (Option.bind (rule_Holds (nth x0 s1).C_ x1) fun y1 => (bif y1 then (some (.inr (.inr ((nth x0 s1).Cat_)))) else (some (.inl (IntKind.wrap .i64 (s1 + 1)))))) else none) else (some (.inr (.inl ()))))) big 0) (joinX fun (_ : Unit) => (some 0)))
theorem plur_Of_seq {x0 : List St36} {x1 : St41} : SC Tryd.prog 28 [lsv encSt36 2 x0, .agg (encSt41 x1)] [] (.fn (.func 39) [] [.ptr 0 0, .ptr 1 0]) [.box [lsv encSt36 2 x0], .box (encSt41 x1)] := by
 refine kFn (fn := Tryd.f28) (fun F hFn hFH hFD => ?_)
 refine kSR ?_
 refine kC 3 [2,3,4] ?_
 refine kEN ?_
 refine kSR ?_
 refine kC 2 [4] ?_
 refine kEN ?_
 refine kX ?_
 exact kV [0, 1] hFn hFH hFD (v1 := .fn (.func 39) [] [.ptr 0 0, .ptr 1 0])
theorem plur_Of_it {x0 : List St36} {x1 : St41} {q : Unit ⊕ Int} (hq : loopN (fun (s1 : Int) => (bif (decide (s1 < (x0.length : Int))) then (bif inR s1 x0.length then (Option.bind (rule_Holds (nth x0 s1).C_ x1) fun y1 => (bif y1 then (some (.inr (.inr ((nth x0 s1).Cat_)))) else (some (.inl (IntKind.wrap .i64 (s1 + 1)))))) else none) else (some (.inr (.inl ()))))) big 0 = some q)
  (l : Nat) (F1 : Fr) (RE : World → Int → World → Prop) (hN : F1.n = 23) (hFH : F1.H0 = [.box [lsv encSt36 2 x0], .box (encSt41 x1)]) (hFD : ∀ i, F1.H0.length ≤ i → F1.D0 i = none) (hY : YW Tryd.prog F1 l RE) :
  J F1 Tryd.prog (bodyC Tryd.f39) (initL 0 [.fn (.yield l) [] [], .ptr 0 0, .ptr 1 0]) [.box [lsv encSt36 2 x0], .box (encSt41 x1)] (QI F1 RE (Sum.elim (fun _ => none) some q)) := by
 refine kSR ?_
 refine kC 3 [0,1,2,6,7,8] ?_
 refine kEN ?_
 refine kb 0 ?_
 refine kl (fun (s1 : Int) => ([(0, .fn (.yield l) [] []), (1, .ptr 0 0), (2, .ptr 1 0), (6, lsv encSt36 2 x0), (7, .int .i64 (x0.length : Int)), (8, .int .i64 s1)], [.box [lsv encSt36 2 x0], .box (encSt41 x1)])) hq [0, 1, 2, 6, 7, 8] (fun s1 x86 hs85 => ?_)
 refine kSR ?_
 refine kC 1 [0,1,2,6,7,8,9] ?_
 refine kEN ?_
 refine kS ?_
 refine kBJ 9 hs85 (fun h88 => ?_) (fun h89 => ?_)
 ·refine kT ?_
  refine kK ?_
  refine PJ.next ?_
  refine kS ?_
  refine kb 1 ?_
  refine kSR ?_
  obtain ⟨hm, h90⟩ := asrt h88
  refine kI 10 encSt36_len hm ?_
  refine kC 3 [0,1,2,5,6,7,8] ?_
  refine kEN ?_
  refine kS ?_
  refine J.regI 0 ?_
  refine RJi.pre (N := 23) wd_wide 5 hN ?_
  refine kC 3 [0,1,2,5,6,7,8,13,14] ?_
  obtain ⟨y91, hy92, h93⟩ := bindS h90
  refine kA 15 (rule_Holds_ok hy92) ?_
  refine kC 1 [0,1,2,5,6,7,8,16] ?_
  refine kE ?_
  refine RJi.nx ?_
  cases y91 with
  | true =>
   obtain rfl := oi h93
   refine RJi.pre (N := 23) wd_wide 7 hN ?_
   refine kC 2 [16,17,18] ?_
   refine kE ?_
   refine RJi.nx ?_
   refine K.yield (N := 23) (l := l) (d := 19) (d1 := 16) (b1 := true) (sv := .agg (encSt36 (nth x0 s1))) (cat := (nth x0 s1).Cat_) (s2 := lsv (encL encSt71 4) 1 (nth x0 s1).C_) hN (by kernel_rfl) rfl rfl (by kernel_rfl) (by kernel_rfl) hY (fun w' K' hf => ?_)
   refine RJi.pre (N := 23) wd_wide 10 rfl ?_
   refine kC 2 [21] ?_
   refine kE ?_
   refine RJi.nx ?_
   refine RJi.done ?_
   refine PJ.nextF hN.symm ?_
   refine kT ?_
   refine kX ?_
   refine PJ.blockRet ?_
   refine PJ.passRetF ?_
   refine PJ.loopOutF (fun e => nomatch e) (fun he99 => ?_)
   subst he99
   refine PJ.blockRet ?_
   exact PJ.iterSome (.inr rfl) hf
  | false =>
   obtain rfl := oi h93
   refine RJi.pre (N := 23) wd_wide 10 hN ?_
   refine kC 5 [0,1,2,6,7,8,21] ?_
   refine kE ?_
   refine RJi.nx ?_
   refine RJi.done ?_
   refine PJ.next ?_
   refine kF ?_
   refine kK ?_
   refine PJ.blockNormal ?_
   refine PJ.next ?_
   refine kR ?_
   refine kC 2 [0,1,2,6,7,8] ?_
   refine kE ?_
   refine kW (L2 := [(0, .fn (.yield l) [] []), (1, .ptr 0 0), (2, .ptr 1 0), (6, lsv encSt36 2 x0), (7, .int .i64 (x0.length : Int)), (8, .int .i64 (IntKind.wrap .i64 (s1 + 1)))]) (H2 := [.box [lsv encSt36 2 x0], .box (encSt41 x1)]) hFH hFD [0, 1] ?_
   exact kLN [0, 1, 2, 6, 7, 8]
 ·refine kF ?_
  refine K.exit 0 (by kernel_rfl) ?_
  refine PJ.passExit ?_
  obtain rfl := oi h89
  refine PJ.loopOut (fun e => nomatch e) (fun he101 => ?_)
  subst he101
  refine PJ.blockOut ?_
  exact PJ.iterNone (.inl rfl)
theorem plur_Of_ok {x0 : List St36} {x1 : St41} {r : Int} (h : plur_Of x0 x1 = some r) : SC Tryd.prog 15 [lsv encSt36 2 x0, .agg (encSt41 x1)] [] (.int .i64 r) [] := by
 unfold plur_Of at h
 obtain ⟨q, hq, h2⟩ := bindS h
 refine K.fnM (fn := Tryd.f15) (fun F hFn hFH hFD hFK => ?_)
 refine kSR ?_
 refine kC 2 [0,3,4] ?_
 refine kEN ?_
 refine kS ?_
 refine kSR ?_
 refine kC 2 [4,6,7] ?_
 refine RJ.callG (d := (some 8)) (f := 28) (args := [lsv encSt36 2 x0, .agg (encSt41 x1)]) (args0 := [lsv encSt36 2 x0, .agg (encSt41 x1)]) (v0 := .fn (.func 39) [] [.ptr 0 0, .ptr 1 0]) (v := .fn (.func 39) [] [.ptr 2 0, .ptr 3 0]) (tr2 := []) (H0 := []) (H0' := [.box [lsv encSt36 2 x0], .box (encSt41 x1)]) (H2 := [.box (encSt41 x1), .box [.int .i64 0], .box [lsv encSt36 2 x0], .box (encSt41 x1)]) []
  (by kernel_rfl) (by kernel_rfl) (by kernel_rfl) (by kernel_rfl) (by decide) (by kernel_rfl) (by kernel_rfl) (by kernel_rfl) (.cons (Le.refl _) (.cons (Le.refl _) .nil)) plur_Of_seq (by kernel_rfl) (by kernel_rfl) (by kernel_rfl) ?_
 refine kEN ?_
 refine kb 0 ?_
 refine K.ranged (g := 39) Tryd.f39 12 4 8 9 3 2 3 1 (c2 := [lsv encSt36 2 x0]) (c3 := encSt41 x1) (x := r) (y := 0) (x4 := 0) (out := Sum.elim (fun _ => none) some q) hFn hFH hFD hFK (by kernel_rfl) (by kernel_rfl) (by kernel_rfl) (by kernel_rfl) (by kernel_rfl) (by kernel_rfl) (by kernel_rfl) (by kernel_rfl) (by kernel_rfl) (by kernel_rfl) (by kernel_rfl)
  (by kernel_rfl) (by kernel_rfl) (by kernel_rfl) (by kernel_rfl) (by kernel_rfl) (by kernel_rfl) (by kernel_rfl) (by kernel_rfl) (by kernel_rfl) (by kernel_rfl) (by kernel_rfl) (by kernel_rfl) (by kernel_rfl) (by kernel_rfl) (by kernel_rfl) (by kernel_rfl) ?_ ?_ (plur_Of_it hq) (fun l cat s2 hs2 => ?_)
 ·intro ho
  cases q with
  | inl u => have h3 := joinX_inl h2; exact oi h3
  | inr v => cases ho
 ·intro cat ho
  cases q with
  | inl u => cases ho
  | inr v =>
   have h3 := joinX_inr h2
   have h4 := oi h3
   cases ho; exact h4
 ·refine ⟨[(4, .ptr 0 0), (5, .ptr 1 0)], [(4, .ptr 0 0)], [.box [.int .i64 0], .box [.int .i64 cat, s2]], [.box [.int .i64 cat], .box [.int .i64 cat, s2]], fun F' hF' => ?_, fun F' hF' => ?_, rfl⟩
  ·refine Ji.region ?_
   refine RJi.pre (N := 12) (wd_round l) 2 hF' ?_
   refine kC 2 [4,5] ?_
   refine kE ?_
   refine RJi.nx ?_
   exact RJi.done (fun a w hs => ⟨rfl, hs⟩)
  ·refine Ji.block 1 ?_
   refine Ji.seq ?_
   refine Ji.region ?_
   refine RJi.pre (N := 12) (wd_round l) 3 hF' ?_
   refine kC 3 [4] ?_
   refine kE ?_
   refine RJi.nx ?_
   refine RJi.done ?_
   refine Ji.retN ?_
   exact fun a w hs => ⟨rfl, hs⟩
def plur_Name (x0 : Int) : Option (List UInt8) :=
 (Option.bind plur_names fun y1 => (Option.bind (Option.bind (bif (decide (x0 < 0)) then (some true) else (some (decide (x0 ≥ 6)))) fun (s27 : Bool) => (bif s27 then (some (.inr ([] : List UInt8))) else (some (.inl ())))) (joinX fun (s19 : Unit) => (bif (decide (x0 = 0)) then (some y1.a0_) else (bif (decide (x0 = 1)) then (some y1.a1_) else (bif (decide (x0 = 2)) then (some y1.a2_) else (bif (decide (x0 = 3)) then (some y1.a3_) else (bif (decide (x0 = 4)) then (some y1.a4_) else (bif (decide (x0 = 5)) then (some y1.a5_) else none)))))))))
theorem plur_Name_ok {x0 : Int} {r : List UInt8} (h : plur_Name x0 = some r) : SC Tryd.prog 9 [.int .i64 x0] [] (.str r) [] := by
 refine kFn (fn := Tryd.f9) (fun F hFn hFH hFD => ?_)
 unfold plur_Name at h
 refine kSR ?_
 refine kC 1 [0,2] ?_
 refine kEN ?_
 refine kSR ?_
 obtain ⟨y1, hy2, h3⟩ := bindS h
 refine kA 4 (plur_names_ok hy2) ?_
 refine kC 2 [0,2,3] ?_
 refine kEN ?_
 obtain ⟨y20, hy21, h22⟩ := bindS h3
 refine K.cutX (by kernel_rfl) (fun (s19 : Unit) => ([(0, .int .i64 x0), (2, .str ([] : List UInt8)), (3, .ptr 0 0)], [.box (encSt48 y1)])) y20 ?_ (fun s19 hs => ?_)
 ·obtain ⟨s27, hy29, h31⟩ := bindS hy21
  refine K.cutN (by kernel_rfl) (fun (s27 : Bool) => ([(0, .int .i64 x0), (2, .str ([] : List UInt8)), (3, .ptr 0 0), (10, .bool s27)], [.box (encSt48 y1)])) s27 ?_ ?_
  ·refine kR ?_
   refine kC 3 [0,2,3,7] ?_
   refine kB 7 hy29 (fun h33 => ?_) (fun h34 => ?_)
   ·refine kC 3 [0,2,3,10] ?_
    refine kE ?_
    obtain rfl := oi h33
    exact kN [0, 2, 3, 10]
   ·refine kC 3 [0,2,3,10] ?_
    refine kE ?_
    obtain rfl := oi h34
    exact kN [0, 2, 3, 10]
  ·refine kBJ 10 h31 (fun h36 => ?_) (fun h37 => ?_)
   ·refine kT ?_
    refine kSR ?_
    refine kC 1 [0,2,3] ?_
    refine kEN ?_
    refine kX ?_
    obtain rfl := oi h36
    have h38 := joinX_inr h22
    refine PJ.cutXr (fun e => nomatch e) ?_
    obtain rfl := oi h38
    exact kZ hFn hFH hFD
   ·refine kF ?_
    refine kK ?_
    obtain rfl := oi h37
    exact kXl [0, 2, 3]
 ·subst hs
  have h23 := joinX_inl h22
  refine kSR ?_
  refine kC 1 [2,3,11] ?_
  cases hb39 : (decide (x0 = 0))
  ·have h41 := condF hb39 h23
   cases hb42 : (decide (x0 = 1))
   ·have h44 := condF hb42 h41
    cases hb45 : (decide (x0 = 2))
    ·have h47 := condF hb45 h44
     cases hb48 : (decide (x0 = 3))
     ·have h50 := condF hb48 h47
      cases hb51 : (decide (x0 = 4))
      ·have h53 := condF hb51 h50
       cases hb54 : (decide (x0 = 5))
       ·have h56 := condF hb54 h53
        cases h56
       ·have h55 := condT hb54 h53
        refine RJ.pin 11 (kd := .i64) (by kernel_rfl) (of_decide_eq_true hb54) ?_
        refine kC 3 [2] ?_
        refine kEN ?_
        refine kX ?_
        obtain rfl := oi h55
        exact kZ hFn hFH hFD
      ·have h52 := condT hb51 h50
       refine RJ.pin 11 (kd := .i64) (by kernel_rfl) (of_decide_eq_true hb51) ?_
       refine kC 3 [2] ?_
       refine kEN ?_
       refine kX ?_
       obtain rfl := oi h52
       exact kZ hFn hFH hFD
     ·have h49 := condT hb48 h47
      refine RJ.pin 11 (kd := .i64) (by kernel_rfl) (of_decide_eq_true hb48) ?_
      refine kC 3 [2] ?_
      refine kEN ?_
      refine kX ?_
      obtain rfl := oi h49
      exact kZ hFn hFH hFD
    ·have h46 := condT hb45 h44
     refine RJ.pin 11 (kd := .i64) (by kernel_rfl) (of_decide_eq_true hb45) ?_
     refine kC 3 [2] ?_
     refine kEN ?_
     refine kX ?_
     obtain rfl := oi h46
     exact kZ hFn hFH hFD
   ·have h43 := condT hb42 h41
    refine RJ.pin 11 (kd := .i64) (by kernel_rfl) (of_decide_eq_true hb42) ?_
    refine kC 3 [2] ?_
    refine kEN ?_
    refine kX ?_
    obtain rfl := oi h43
    exact kZ hFn hFH hFD
  ·have h40 := condT hb39 h23
   refine RJ.pin 11 (kd := .i64) (by kernel_rfl) (of_decide_eq_true hb39) ?_
   refine kC 3 [2] ?_
   refine kEN ?_
   refine kX ?_
   obtain rfl := oi h40
   exact kZ hFn hFH hFD
def plur_Right (x0 : List St36) : Option (Bool) :=
 (Option.bind (loopN (fun (s447 : Int × Int) => (bif (decide (s447.2 < (x0.length : Int))) then (Option.bind (bif inR s447.2 x0.length then (Option.bind (Option.bind (Option.bind (plur_rises s447.1 ((nth x0 s447.2).Cat_)) fun y869 => (bif (!y869) then (some true) else (Option.bind (rule_Right ((nth x0 s447.2).C_)) fun y875 => (some (!y875))))) fun (s864 : Bool) => (bif s864 then (some (.inr (.inr (.inr (.inr false))))) else (some (.inl ())))) (joinX fun (s850 : Unit) => (some (.inl ())))) else none) (joinX fun (s813 : Unit) => (some (.inl ((nth x0 s447.2).Cat_, (IntKind.wrap .i64 (s447.2 + 1))))))) else (some (.inr (.inl ()))))) big (0, 0)) (joinX fun (s442 : Unit) => (some true)))
theorem plur_Right_ok {x0 : List St36} {r : Bool} (h : plur_Right x0 = some r) : SC Tryd.prog 16 [lsv encSt36 2 x0] [] (.bool r) [] := by
 refine kFn (fn := Tryd.f16) (fun F hFn hFH hFD => ?_)
 unfold plur_Right at h
 refine kSR ?_
 refine kC 1 [0,2] ?_
 refine kEN ?_
 refine kSR ?_
 refine kC 1 [0,2,3] ?_
 refine kEN ?_
 obtain ⟨y443, hy444, h445⟩ := bindS h
 refine K.cutX (by kernel_rfl) (fun (s442 : Unit) => ([(2, .bool false)], [])) y443 ?_ (fun s442 hs => ?_)
 ·refine kSR ?_
  refine kC 3 [2,3,6,7,8] ?_
  refine kEN ?_
  refine kb 0 ?_
  refine kl (fun (s447 : Int × Int) => ([(2, .bool false), (3, .int .i64 s447.1), (6, lsv encSt36 2 x0), (7, .int .i64 (x0.length : Int)), (8, .int .i64 s447.2)], [])) hy444 [2, 3, 6, 7, 8] (fun s447 x741 hs740 => ?_)
  refine kSR ?_
  refine kC 1 [2,3,6,7,8,9] ?_
  refine kEN ?_
  refine kS ?_
  refine kBJ 9 hs740 (fun h743 => ?_) (fun h744 => ?_)
  ·refine kT ?_
   refine kK ?_
   refine PJ.next ?_
   obtain ⟨y814, hy815, h816⟩ := bindS h743
   refine K.cutX (by kernel_rfl) (fun (s813 : Unit) => ([(2, .bool false), (3, .int .i64 ((nth x0 s447.2).Cat_)), (6, lsv encSt36 2 x0), (7, .int .i64 (x0.length : Int)), (8, .int .i64 s447.2)], [])) y814 ?_ (fun s813 hs => ?_)
   ·refine kb 1 ?_
    refine kSR ?_
    obtain ⟨hm, h818⟩ := asrt hy815
    refine kI 10 encSt36_len hm ?_
    refine kC 3 [2,3,5,6,7,8] ?_
    refine kEN ?_
    obtain ⟨y851, hy852, h853⟩ := bindS h818
    refine K.cutX (by kernel_rfl) (fun (s850 : Unit) => ([(2, .bool false), (3, .int .i64 s447.1), (5, .ptr 0 0), (6, lsv encSt36 2 x0), (7, .int .i64 (x0.length : Int)), (8, .int .i64 s447.2)], [.box [.int .i64 ((nth x0 s447.2).Cat_), lsv (encL encSt71 4) 1 ((nth x0 s447.2).C_)]])) y851 ?_ (fun s850 hs => ?_)
    ·obtain ⟨s864, hy866, h868⟩ := bindS hy852
     refine K.cutN (by kernel_rfl) (fun (s864 : Bool) => ([(2, .bool false), (3, .int .i64 s447.1), (5, .ptr 0 0), (6, lsv encSt36 2 x0), (7, .int .i64 (x0.length : Int)), (8, .int .i64 s447.2), (22, .bool s864)], [.box [.int .i64 ((nth x0 s447.2).Cat_), lsv (encL encSt71 4) 1 ((nth x0 s447.2).C_)]])) s864 ?_ ?_
     ·refine kR ?_
      refine kC 3 [2,3,5,6,7,8,12,14] ?_
      obtain ⟨y869, hy870, h871⟩ := bindS hy866
      refine kA 15 (plur_rises_ok hy870) ?_
      refine kC 2 [2,3,5,6,7,8,17] ?_
      refine kB 17 h871 (fun h873 => ?_) (fun h874 => ?_)
      ·refine kC 5 [2,3,5,6,7,8,22] ?_
       refine kE ?_
       obtain rfl := oi h873
       exact kN [2, 3, 5, 6, 7, 8, 22]
      ·refine kC 2 [2,3,5,6,7,8,17,19] ?_
       obtain ⟨y875, hy876, h877⟩ := bindS h874
       refine kA 20 (rule_Right_ok hy876) ?_
       refine kC 2 [2,3,5,6,7,8,22] ?_
       refine kE ?_
       obtain rfl := oi h877
       exact kN [2, 3, 5, 6, 7, 8, 22]
     ·refine kBJ 22 h868 (fun h879 => ?_) (fun h880 => ?_)
      ·refine kT ?_
       refine kSR ?_
       refine kC 1 [2,3,5,6,7,8] ?_
       refine kEN ?_
       refine kX ?_
       obtain rfl := oi h879
       have h881 := joinX_inr h853
       refine PJ.cutXr (fun e => nomatch e) ?_
       refine PJ.blockRet ?_
       obtain rfl := oi h881
       have h882 := joinX_inr h816
       refine PJ.cutXr (fun e => nomatch e) ?_
       obtain rfl := oi h882
       refine PJ.loopOut (fun e => nomatch e) (fun he885 => ?_)
       have h883 := congrArg some he885
       refine PJ.blockRet ?_
       obtain rfl := oi h883
       have h884 := joinX_inr h445
       refine PJ.cutXr (fun e => nomatch e) ?_
       obtain rfl := oi h884
       exact kZ hFn hFH hFD
      ·refine kF ?_
       refine kK ?_
       obtain rfl := oi h880
       exact kXl [2, 3, 5, 6, 7, 8]
    ·subst hs
     have h854 := joinX_inl h853
     refine kR ?_
     refine kC 3 [2,3,6,7,8] ?_
     refine kE ?_
     refine PJ.blockNormal ?_
     obtain rfl := oi h854
     refine kW (L2 := [(2, .bool false), (3, .int .i64 ((nth x0 s447.2).Cat_)), (6, lsv encSt36 2 x0), (7, .int .i64 (x0.length : Int)), (8, .int .i64 s447.2)]) (H2 := []) hFH hFD [] ?_
     exact kXl [2, 3, 6, 7, 8]
   ·subst hs
    have h817 := joinX_inl h816
    refine kR ?_
    refine kC 2 [2,3,6,7,8] ?_
    refine kE ?_
    obtain rfl := oi h817
    exact kLN [2, 3, 6, 7, 8]
  ·refine kF ?_
   refine K.exit 0 (by kernel_rfl) ?_
   refine PJ.passExit ?_
   obtain rfl := oi h744
   refine PJ.loopOut (fun e => nomatch e) (fun he887 => ?_)
   have h886 := congrArg some he887
   refine PJ.blockOut ?_
   obtain rfl := oi h886
   exact kXl [2]
 ·subst hs
  have h446 := joinX_inl h445
  refine kSR ?_
  refine kC 1 [2] ?_
  refine kEN ?_
  refine kX ?_
  obtain rfl := oi h446
  exact kZ hFn hFH hFD
def exerguelaw12_shown  : Option (Bool) :=
 (Option.bind (plur_Read (([(⟨2, ([110, 32, 61, 32, 49] : List UInt8)⟩ : St45)] : List St45))) fun y1 => (Option.bind (bif (decide (y1.2.2 = 0)) then (bif (decide ((y1.1.length : Int) = 1)) then (Option.bind (plur_Of y1.1 (⟨([1] : List Int), ([] : List Int), 0, 0⟩ : St41)) fun y42 => (bif (decide (y42 = 2)) then (Option.bind (plur_Of y1.1 (⟨([2] : List Int), ([] : List Int), 0, 0⟩ : St41)) fun y48 => (bif (decide (y48 = 0)) then (Option.bind (plur_Name 2) fun y54 => (bif (y54 == ([111, 110, 101] : List UInt8)) then (Option.bind (plur_Right y1.1) fun y60 => (some y60)) else (some false))) else (some false))) else (some false))) else (some false)) else (some false)) fun (s31 : Bool) => (some s31)))
theorem exerguelaw12_shown_ok  {r : Bool} (h : exerguelaw12_shown = some r) : SC Tryd.prog 6 [] [] (.bool r) [] := by
 refine kFn (fn := Tryd.f6) (fun F hFn hFH hFD => ?_)
 unfold exerguelaw12_shown at h
 refine kSR ?_
 refine kC 1 [0] ?_
 refine kEN ?_
 refine kSR ?_
 refine kC 2 [0,6] ?_
 obtain ⟨y1, hy2, h3⟩ := bindS h
 refine RJ.wk (Wk.freeze 0 (n := (([(⟨2, ([110, 32, 61, 32, 49] : List UInt8)⟩ : St45)] : List St45)).length) (k := 2) (e := 46) (cs := (([(⟨2, ([110, 32, 61, 32, 49] : List UInt8)⟩ : St45)] : List St45)).flatMap encSt45) (by kernel_rfl)) ?_
 refine kA 7 (plur_Read_ok hy2) ?_
 refine kC 7 [0,1,3] ?_
 refine kEN ?_
 obtain ⟨s31, hy33, h35⟩ := bindS h3
 refine K.cutN (by kernel_rfl) (fun (s31 : Bool) => ([(0, .bool s31)], [])) s31 ?_ ?_
 ·refine kR ?_
  refine kC 3 [0,1,13] ?_
  refine kB 13 hy33 (fun h37 => ?_) (fun h38 => ?_)
  ·refine kC 5 [0,1,18] ?_
   refine kB 18 h37 (fun h40 => ?_) (fun h41 => ?_)
   ·refine kC 3 [0,1,18,19,21] ?_
    obtain ⟨y42, hy43, h44⟩ := bindS h40
    refine RJ.callL (d := (some 22)) (f := 15) (args := [lsv encSt36 2 y1.1, .agg [.vc 1, .nl, .int .i64 0, .int .i64 0]]) (args0 := [lsv encSt36 2 y1.1, .agg [.vc 0, .nl, .int .i64 0, .int .i64 0]]) (args1 := [lsv encSt36 2 y1.1, .agg [lsv (encI .u8) 1 ([1] : List Int), .nl, .int .i64 0, .int .i64 0]]) (H0 := [vecL (encI .u8) 1 5 ([1] : List Int)]) (v := .int .i64 y42) (tr2 := []) [1] (by kernel_rfl) (by kernel_rfl) (by kernel_rfl) (by kernel_rfl) (by decide) (by kernel_rfl) (by kernel_rfl) (by kernel_rfl) (by kernel_rfl) (.cons (Le.refl _) (.cons (Le.agg (.cons (Le.refl _) (.cons (Le.nl _) (.cons (Le.refl _) (.cons (Le.refl _) .nil))))) .nil)) (plur_Of_ok hy43) (by kernel_rfl) (by kernel_rfl) ?_
    refine kC 3 [0,1,25] ?_
    refine kB 25 h44 (fun h46 => ?_) (fun h47 => ?_)
    ·refine kC 3 [0,1,25,26,28] ?_
     obtain ⟨y48, hy49, h50⟩ := bindS h46
     refine RJ.callL (d := (some 29)) (f := 15) (args := [lsv encSt36 2 y1.1, .agg [.vc 2, .nl, .int .i64 0, .int .i64 0]]) (args0 := [lsv encSt36 2 y1.1, .agg [.vc 0, .nl, .int .i64 0, .int .i64 0]]) (args1 := [lsv encSt36 2 y1.1, .agg [lsv (encI .u8) 1 ([2] : List Int), .nl, .int .i64 0, .int .i64 0]]) (H0 := [vecL (encI .u8) 1 5 ([2] : List Int)]) (v := .int .i64 y48) (tr2 := []) [2] (by kernel_rfl) (by kernel_rfl) (by kernel_rfl) (by kernel_rfl) (by decide) (by kernel_rfl) (by kernel_rfl) (by kernel_rfl) (by kernel_rfl) (.cons (Le.refl _) (.cons (Le.agg (.cons (Le.refl _) (.cons (Le.nl _) (.cons (Le.refl _) (.cons (Le.refl _) .nil))))) .nil)) (plur_Of_ok hy49) (by kernel_rfl) (by kernel_rfl) ?_
     refine RJ.seg 3 [0, 1, 32] (L2 := [(0, .bool false), (1, lsv encSt36 2 y1.1), (32, .bool (decide (y48 = 0)))]) (H2 := [.gone, vecL (encI .u8) 1 5 ([1] : List Int), vecL (encI .u8) 1 5 ([2] : List Int)]) (by kernel_rfl) ?_
     refine kB 32 h50 (fun h52 => ?_) (fun h53 => ?_)
     ·obtain ⟨y54, hy55, h56⟩ := bindS h52
      refine kA 33 (plur_Name_ok hy55) ?_
      refine kC 3 [0,1,36] ?_
      refine kB 36 h56 (fun h58 => ?_) (fun h59 => ?_)
      ·refine kC 1 [0,36,37] ?_
       obtain ⟨y60, hy61, h62⟩ := bindS h58
       refine kA 38 (plur_Right_ok hy61) ?_
       refine kC 2 [0] ?_
       refine kE ?_
       obtain rfl := oi h62
       refine kW (L2 := [(0, .bool y60)]) (H2 := []) hFH hFD [] ?_
       exact kN [0]
      ·refine kC 4 [0] ?_
       refine kE ?_
       obtain rfl := oi h59
       refine kW (L2 := [(0, .bool false)]) (H2 := []) hFH hFD [] ?_
       exact kN [0]
     ·refine kC 8 [0] ?_
      refine kE ?_
      obtain rfl := oi h53
      refine kW (L2 := [(0, .bool false)]) (H2 := []) hFH hFD [] ?_
      exact kN [0]
    ·refine kC 15 [0] ?_
     refine kE ?_
     obtain rfl := oi h47
     refine kW (L2 := [(0, .bool false)]) (H2 := []) hFH hFD [] ?_
     exact kN [0]
   ·refine kC 22 [0] ?_
    refine kE ?_
    obtain rfl := oi h41
    refine kW (L2 := [(0, .bool false)]) (H2 := []) hFH hFD [] ?_
    exact kN [0]
  ·refine kC 27 [0] ?_
   refine kE ?_
   obtain rfl := oi h38
   refine kW (L2 := [(0, .bool false)]) (H2 := []) hFH hFD [] ?_
   exact kN [0]
 ·refine kX ?_
  obtain rfl := oi h35
  exact kZ hFn hFH hFD
def exergueref11_Short (x0 : List (List St71)) : Option (Bool) :=
 (Option.bind (loopN (fun (s41367 : Int × Int) => (bif (decide (s41367.2 < (x0.length : Int))) then (Option.bind (Option.bind (loopN (fun (s79281 : Int × Int) => (bif inR s41367.2 x0.length then (bif (decide (s79281.2 < ((nth x0 s41367.2).length : Int))) then (Option.bind (bif inR s41367.2 x0.length then (bif inR s79281.2 (nth x0 s41367.2).length then (Option.bind (loopN (fun (s82424 : Int) => (bif inR s41367.2 x0.length then (bif inR s79281.2 (nth x0 s41367.2).length then (bif (decide (s82424 < ((((nth (nth x0 s41367.2) s79281.2).R_).length : Int)))) then (Option.bind (Option.bind (bif inR s41367.2 x0.length then (bif inR s79281.2 (nth x0 s41367.2).length then (bif inR s82424 ((nth (nth x0 s41367.2) s79281.2).R_).length then (bif (decide (((nth ((nth (nth x0 s41367.2) s79281.2).R_) s82424).a0_) < (-1000000000000))) then (some true) else (bif inR s41367.2 x0.length then (bif inR s79281.2 (nth x0 s41367.2).length then (bif inR s82424 ((nth (nth x0 s41367.2) s79281.2).R_).length then (some ((decide (((nth ((nth (nth x0 s41367.2) s79281.2).R_) s82424).a1_) < (-1000000000000))))) else none) else none) else none)) else none) else none) else none) fun (s82660 : Bool) => (bif s82660 then (some (.inr (.inr (.inr (.inr (.inr (.inr (.inr (.inr (.inr false)))))))))) else (some (.inl ())))) (joinX fun (s82646 : Unit) => (some (.inl (IntKind.wrap .i64 (s82424 + 1)))))) else (some (.inr (.inl ())))) else none) else none)) big 0) (joinX fun (s82419 : Unit) => (Option.bind (bif inR s41367.2 x0.length then (bif inR s79281.2 (nth x0 s41367.2).length then (bif (decide (((nth (nth x0 s41367.2) s79281.2).Mod_) < (-1000000000000))) then (some true) else (some ((decide (((IntKind.wrap .i64 ((IntKind.wrap .i64 (s79281.1 + 1)) + ((((nth (nth x0 s41367.2) s79281.2).R_).length : Int))))) > 200))))) else none) else none) fun (s82696 : Bool) => (bif s82696 then (some (.inr (.inr (.inr (.inr (.inr (.inr false))))))) else (some (.inl ())))))) else none) else none) (joinX fun (s82145 : Unit) => (some (.inl ((IntKind.wrap .i64 ((IntKind.wrap .i64 (s79281.1 + 1)) + ((((nth (nth x0 s41367.2) s79281.2).R_).length : Int)))), (IntKind.wrap .i64 (s79281.2 + 1))))))) else (some (.inr (.inl s79281.1)))) else none)) big ((IntKind.wrap .i64 (s41367.1 + 1)), 0)) (joinX fun (s79276 : Int) => (bif (decide (s79276 > 200)) then (some (.inr (.inr (.inr false)))) else (some (.inl s79276))))) (joinX fun (s75833 : Int) => (some (.inl (s75833, (IntKind.wrap .i64 (s41367.2 + 1))))))) else (some (.inr (.inl ()))))) big (0, 0)) (joinX fun (s41362 : Unit) => (some true)))
theorem exergueref11_Short_ok {x0 : List (List St71)} {r : Bool} (h : exergueref11_Short x0 = some r) : SC Tryd.prog 22 [lsv (encL encSt71 4) 1 x0] [] (.bool r) [] := by
 refine kFn (fn := Tryd.f22) (fun F hFn hFH hFD => ?_)
 unfold exergueref11_Short at h
 refine kSR ?_
 refine kC 1 [0,2] ?_
 refine kEN ?_
 refine kSR ?_
 refine kC 1 [0,2,3] ?_
 refine kEN ?_
 obtain ⟨y41363, hy41364, h41365⟩ := bindS h
 refine K.cutX (by kernel_rfl) (fun (s41362 : Unit) => ([(2, .bool false)], [])) y41363 ?_ (fun s41362 hs => ?_)
 ·refine kSR ?_
  refine kC 1 [0,2,3,4] ?_
  refine kEN ?_
  refine kb 0 ?_
  refine kl (fun (s41367 : Int × Int) => ([(0, lsv (encL encSt71 4) 1 x0), (2, .bool false), (3, .int .i64 s41367.1), (4, .int .i64 s41367.2)], [])) hy41364 [0, 2, 3, 4] (fun s41367 x68941 hs68940 => ?_)
  refine kS ?_
  refine kSR ?_
  refine kC 4 [0,2,3,4,10] ?_
  refine kEN ?_
  refine kBJ 10 hs68940 (fun h68943 => ?_) (fun h68944 => ?_)
  ·refine kT ?_
   refine kK ?_
   refine PJ.next ?_
   obtain ⟨y75834, hy75835, h75836⟩ := bindS h68943
   refine K.cutX (by kernel_rfl) (fun (s75833 : Int) => ([(0, lsv (encL encSt71 4) 1 x0), (2, .bool false), (3, .int .i64 s75833), (4, .int .i64 s41367.2)], [])) y75834 ?_ (fun s75833 hs => ?_)
   ·refine kb 1 ?_
    refine kSR ?_
    refine kC 3 [0,2,3,4] ?_
    refine kEN ?_
    obtain ⟨y79277, hy79278, h79279⟩ := bindS hy75835
    refine K.cutX (by kernel_rfl) (fun (s79276 : Int) => ([(0, lsv (encL encSt71 4) 1 x0), (2, .bool false), (3, .int .i64 s79276), (4, .int .i64 s41367.2)], [])) y79277 ?_ (fun s79276 hs => ?_)
    ·refine kSR ?_
     refine kC 1 [0,2,3,4,5] ?_
     refine kEN ?_
     refine kb 2 ?_
     refine kl (fun (s79281 : Int × Int) => ([(0, lsv (encL encSt71 4) 1 x0), (2, .bool false), (3, .int .i64 s79281.1), (4, .int .i64 s41367.2), (5, .int .i64 s79281.2)], [])) hy79278 [0, 2, 3, 4, 5] (fun s79281 x81573 hs81572 => ?_)
     refine kS ?_
     refine kSR ?_
     refine kC 3 [0,2,3,4,5,15,16,17] ?_
     obtain ⟨hm, h81574⟩ := asrt hs81572
     refine kI 18 (encL_len encSt71 4) hm ?_
     refine kC 3 [0,2,3,4,5,21] ?_
     refine kEN ?_
     refine kBJ 21 h81574 (fun h81576 => ?_) (fun h81577 => ?_)
     ·refine kT ?_
      refine kK ?_
      refine PJ.next ?_
      obtain ⟨y82146, hy82147, h82148⟩ := bindS h81576
      refine K.cutX (by kernel_rfl) (fun (s82145 : Unit) => ([(0, lsv (encL encSt71 4) 1 x0), (2, .bool false), (3, .int .i64 ((IntKind.wrap .i64 ((IntKind.wrap .i64 (s79281.1 + 1)) + ((((nth (nth x0 s41367.2) s79281.2).R_).length : Int)))))), (4, .int .i64 s41367.2), (5, .int .i64 s79281.2)], [])) y82146 ?_ (fun s82145 hs => ?_)
      ·refine kb 3 ?_
       refine kSR ?_
       refine kC 4 [0,2,3,4,5,25,26,27] ?_
       obtain ⟨hm, h82150⟩ := asrt hy82147
       refine kI 28 (encL_len encSt71 4) hm ?_
       refine kC 2 [0,2,3,4,5,25,29,30] ?_
       obtain ⟨hm, h82151⟩ := asrt h82150
       refine kI 31 encSt71_len hm ?_
       refine kC 5 [0,2,3,4,5] ?_
       refine kEN ?_
       obtain ⟨y82420, hy82421, h82422⟩ := bindS h82151
       refine K.cutX (by kernel_rfl) (fun (s82419 : Unit) => ([(0, lsv (encL encSt71 4) 1 x0), (2, .bool false), (3, .int .i64 ((IntKind.wrap .i64 ((IntKind.wrap .i64 (s79281.1 + 1)) + ((((nth (nth x0 s41367.2) s79281.2).R_).length : Int)))))), (4, .int .i64 s41367.2), (5, .int .i64 s79281.2)], [])) y82420 ?_ (fun s82419 hs => ?_)
       ·refine kSR ?_
        refine kC 1 [0,2,3,4,5,6] ?_
        refine kEN ?_
        refine kb 4 ?_
        refine kl (fun (s82424 : Int) => ([(0, lsv (encL encSt71 4) 1 x0), (2, .bool false), (3, .int .i64 ((IntKind.wrap .i64 ((IntKind.wrap .i64 (s79281.1 + 1)) + ((((nth (nth x0 s41367.2) s79281.2).R_).length : Int)))))), (4, .int .i64 s41367.2), (5, .int .i64 s79281.2), (6, .int .i64 s82424)], [])) hy82421 [0, 2, 3, 4, 5, 6] (fun s82424 x82602 hs82601 => ?_)
        refine kS ?_
        refine kSR ?_
        refine kC 3 [0,2,3,4,5,6,36,37,38] ?_
        obtain ⟨hm, h82603⟩ := asrt hs82601
        refine kI 39 (encL_len encSt71 4) hm ?_
        refine kC 2 [0,2,3,4,5,6,36,40,41] ?_
        obtain ⟨hm, h82604⟩ := asrt h82603
        refine kI 42 encSt71_len hm ?_
        refine kC 4 [0,2,3,4,5,6,46] ?_
        refine kEN ?_
        refine kBJ 46 h82604 (fun h82606 => ?_) (fun h82607 => ?_)
        ·refine kT ?_
         refine kK ?_
         refine PJ.next ?_
         obtain ⟨y82647, hy82648, h82649⟩ := bindS h82606
         refine K.cutX (by kernel_rfl) (fun (s82646 : Unit) => ([(0, lsv (encL encSt71 4) 1 x0), (2, .bool false), (3, .int .i64 ((IntKind.wrap .i64 ((IntKind.wrap .i64 (s79281.1 + 1)) + ((((nth (nth x0 s41367.2) s79281.2).R_).length : Int)))))), (4, .int .i64 s41367.2), (5, .int .i64 s79281.2), (6, .int .i64 s82424)], [])) y82647 ?_ (fun s82646 hs => ?_)
         ·refine kb 5 ?_
          obtain ⟨s82660, hy82662, h82664⟩ := bindS hy82648
          refine K.cutN (by kernel_rfl) (fun (s82660 : Bool) => ([(0, lsv (encL encSt71 4) 1 x0), (2, .bool false), (3, .int .i64 ((IntKind.wrap .i64 ((IntKind.wrap .i64 (s79281.1 + 1)) + ((((nth (nth x0 s41367.2) s79281.2).R_).length : Int)))))), (4, .int .i64 s41367.2), (5, .int .i64 s79281.2), (6, .int .i64 s82424), (76, .bool s82660)], [])) s82660 ?_ ?_
          ·refine kR ?_
           refine kC 2 [0,2,3,4,5,6,49,50] ?_
           obtain ⟨hm, h82665⟩ := asrt hy82662
           refine kI 51 (encL_len encSt71 4) hm ?_
           refine kC 2 [0,2,3,4,5,6,52,53] ?_
           obtain ⟨hm, h82666⟩ := asrt h82665
           refine kI 54 encSt71_len hm ?_
           refine kC 3 [0,2,3,4,5,6,56,57] ?_
           obtain ⟨hm, h82667⟩ := asrt h82666
           refine kI 58 encSt73_len hm ?_
           refine kC 4 [0,2,3,4,5,6,62] ?_
           refine kB 62 h82667 (fun h82669 => ?_) (fun h82670 => ?_)
           ·refine kC 14 [0,2,3,4,5,6,76] ?_
            refine kE ?_
            obtain rfl := oi h82669
            exact kN [0, 2, 3, 4, 5, 6, 76]
           ·refine kC 2 [0,2,3,4,5,6,62,63,64] ?_
            obtain ⟨hm, h82671⟩ := asrt h82670
            refine kI 65 (encL_len encSt71 4) hm ?_
            refine RJ.seg 2 [0, 2, 3, 4, 5, 6, 62, 66, 67] (L2 := [(0, lsv (encL encSt71 4) 1 x0), (2, .bool false), (3, .int .i64 ((IntKind.wrap .i64 ((IntKind.wrap .i64 (s79281.1 + 1)) + ((((nth (nth x0 s41367.2) s79281.2).R_).length : Int)))))), (4, .int .i64 s41367.2), (5, .int .i64 s79281.2), (6, .int .i64 s82424), (62, .bool false), (66, lsv encSt71 4 (nth x0 s41367.2)), (67, .int .i64 s79281.2)]) (H2 := []) (by kernel_rfl) ?_
            obtain ⟨hm, h82672⟩ := asrt h82671
            refine kI 68 encSt71_len hm ?_
            refine kC 3 [0,2,3,4,5,6,62,70,71] ?_
            obtain ⟨hm, h82673⟩ := asrt h82672
            refine kI 72 encSt73_len hm ?_
            refine kC 4 [0,2,3,4,5,6,76] ?_
            refine kE ?_
            obtain rfl := oi h82673
            exact kN [0, 2, 3, 4, 5, 6, 76]
          ·refine kBJ 76 h82664 (fun h82675 => ?_) (fun h82676 => ?_)
           ·refine kT ?_
            refine kSR ?_
            refine kC 1 [0,2,3,4,5,6] ?_
            refine kEN ?_
            refine kX ?_
            refine PJ.blockRet ?_
            obtain rfl := oi h82675
            have h82677 := joinX_inr h82649
            refine PJ.cutXr (fun e => nomatch e) ?_
            obtain rfl := oi h82677
            refine PJ.loopOut (fun e => nomatch e) (fun he82688 => ?_)
            have h82678 := congrArg some he82688
            refine PJ.blockRet ?_
            obtain rfl := oi h82678
            have h82679 := joinX_inr h82422
            refine PJ.cutXr (fun e => nomatch e) ?_
            refine PJ.blockRet ?_
            obtain rfl := oi h82679
            have h82680 := joinX_inr h82148
            refine PJ.cutXr (fun e => nomatch e) ?_
            obtain rfl := oi h82680
            refine PJ.loopOut (fun e => nomatch e) (fun he82687 => ?_)
            have h82681 := congrArg some he82687
            refine PJ.blockRet ?_
            obtain rfl := oi h82681
            have h82682 := joinX_inr h79279
            refine PJ.cutXr (fun e => nomatch e) ?_
            refine PJ.blockRet ?_
            obtain rfl := oi h82682
            have h82683 := joinX_inr h75836
            refine PJ.cutXr (fun e => nomatch e) ?_
            obtain rfl := oi h82683
            refine PJ.loopOut (fun e => nomatch e) (fun he82686 => ?_)
            have h82684 := congrArg some he82686
            refine PJ.blockRet ?_
            obtain rfl := oi h82684
            have h82685 := joinX_inr h41365
            refine PJ.cutXr (fun e => nomatch e) ?_
            obtain rfl := oi h82685
            exact kZ hFn hFH hFD
           ·refine kF ?_
            refine kK ?_
            refine PJ.blockNormal ?_
            obtain rfl := oi h82676
            exact kXl [0, 2, 3, 4, 5, 6]
         ·subst hs
          have h82650 := joinX_inl h82649
          refine kR ?_
          refine kC 3 [0,2,3,4,5,6] ?_
          refine kE ?_
          obtain rfl := oi h82650
          exact kLN [0, 2, 3, 4, 5, 6]
        ·refine kF ?_
         refine K.exit 4 (by kernel_rfl) ?_
         refine PJ.passExit ?_
         obtain rfl := oi h82607
         refine PJ.loopOut (fun e => nomatch e) (fun he82690 => ?_)
         have h82689 := congrArg some he82690
         refine PJ.blockOut ?_
         obtain rfl := oi h82689
         exact kXl [0, 2, 3, 4, 5]
       ·subst hs
        have h82423 := joinX_inl h82422
        obtain ⟨s82696, hy82698, h82700⟩ := bindS h82423
        refine K.cutN (by kernel_rfl) (fun (s82696 : Bool) => ([(0, lsv (encL encSt71 4) 1 x0), (2, .bool false), (3, .int .i64 ((IntKind.wrap .i64 ((IntKind.wrap .i64 (s79281.1 + 1)) + ((((nth (nth x0 s41367.2) s79281.2).R_).length : Int)))))), (4, .int .i64 s41367.2), (5, .int .i64 s79281.2), (89, .bool s82696)], [])) s82696 ?_ ?_
        ·refine kR ?_
         refine kC 2 [0,2,3,4,5,77,78] ?_
         obtain ⟨hm, h82701⟩ := asrt hy82698
         refine kI 79 (encL_len encSt71 4) hm ?_
         refine kC 2 [0,2,3,4,5,80,81] ?_
         obtain ⟨hm, h82702⟩ := asrt h82701
         refine kI 82 encSt71_len hm ?_
         refine kC 4 [0,2,3,4,5,86] ?_
         refine kB 86 h82702 (fun h82704 => ?_) (fun h82705 => ?_)
         ·refine kC 3 [0,2,3,4,5,89] ?_
          refine kE ?_
          obtain rfl := oi h82704
          exact kN [0, 2, 3, 4, 5, 89]
         ·refine kC 3 [0,2,3,4,5,89] ?_
          refine kE ?_
          obtain rfl := oi h82705
          exact kN [0, 2, 3, 4, 5, 89]
        ·refine kBJ 89 h82700 (fun h82707 => ?_) (fun h82708 => ?_)
         ·refine kT ?_
          refine kSR ?_
          refine kC 1 [0,2,3,4,5] ?_
          refine kEN ?_
          refine kX ?_
          refine PJ.blockRet ?_
          obtain rfl := oi h82707
          have h82709 := joinX_inr h82148
          refine PJ.cutXr (fun e => nomatch e) ?_
          obtain rfl := oi h82709
          refine PJ.loopOut (fun e => nomatch e) (fun he82716 => ?_)
          have h82710 := congrArg some he82716
          refine PJ.blockRet ?_
          obtain rfl := oi h82710
          have h82711 := joinX_inr h79279
          refine PJ.cutXr (fun e => nomatch e) ?_
          refine PJ.blockRet ?_
          obtain rfl := oi h82711
          have h82712 := joinX_inr h75836
          refine PJ.cutXr (fun e => nomatch e) ?_
          obtain rfl := oi h82712
          refine PJ.loopOut (fun e => nomatch e) (fun he82715 => ?_)
          have h82713 := congrArg some he82715
          refine PJ.blockRet ?_
          obtain rfl := oi h82713
          have h82714 := joinX_inr h41365
          refine PJ.cutXr (fun e => nomatch e) ?_
          obtain rfl := oi h82714
          exact kZ hFn hFH hFD
         ·refine kF ?_
          refine kK ?_
          refine PJ.blockNormal ?_
          obtain rfl := oi h82708
          exact kXl [0, 2, 3, 4, 5]
      ·subst hs
       have h82149 := joinX_inl h82148
       refine kR ?_
       refine kC 3 [0,2,3,4,5] ?_
       refine kE ?_
       obtain rfl := oi h82149
       exact kLN [0, 2, 3, 4, 5]
     ·refine kF ?_
      refine K.exit 2 (by kernel_rfl) ?_
      refine PJ.passExit ?_
      obtain rfl := oi h81577
      refine PJ.loopOut (fun e => nomatch e) (fun he82718 => ?_)
      have h82717 := congrArg some he82718
      refine PJ.blockOut ?_
      obtain rfl := oi h82717
      exact kXl [0, 2, 3, 4]
    ·subst hs
     have h79280 := joinX_inl h79279
     refine kSR ?_
     refine kC 2 [0,2,3,4,91] ?_
     refine kEN ?_
     refine kBJ 91 h79280 (fun h82720 => ?_) (fun h82721 => ?_)
     ·refine kT ?_
      refine kSR ?_
      refine kC 1 [0,2,3,4] ?_
      refine kEN ?_
      refine kX ?_
      refine PJ.blockRet ?_
      obtain rfl := oi h82720
      have h82722 := joinX_inr h75836
      refine PJ.cutXr (fun e => nomatch e) ?_
      obtain rfl := oi h82722
      refine PJ.loopOut (fun e => nomatch e) (fun he82725 => ?_)
      have h82723 := congrArg some he82725
      refine PJ.blockRet ?_
      obtain rfl := oi h82723
      have h82724 := joinX_inr h41365
      refine PJ.cutXr (fun e => nomatch e) ?_
      obtain rfl := oi h82724
      exact kZ hFn hFH hFD
     ·refine kF ?_
      refine kK ?_
      refine PJ.blockNormal ?_
      obtain rfl := oi h82721
      exact kXl [0, 2, 3, 4]
   ·subst hs
    have h75837 := joinX_inl h75836
    refine kR ?_
    refine kC 3 [0,2,3,4] ?_
    refine kE ?_
    obtain rfl := oi h75837
    exact kLN [0, 2, 3, 4]
  ·refine kF ?_
   refine K.exit 0 (by kernel_rfl) ?_
   refine PJ.passExit ?_
   obtain rfl := oi h68944
   refine PJ.loopOut (fun e => nomatch e) (fun he82727 => ?_)
   have h82726 := congrArg some he82727
   refine PJ.blockOut ?_
   obtain rfl := oi h82726
   exact kXl [2]
 ·subst hs
  have h41366 := joinX_inl h41365
  refine kSR ?_
  refine kC 1 [2] ?_
  refine kEN ?_
  refine kX ?_
  obtain rfl := oi h41366
  exact kZ hFn hFH hFD
def exergueref12_Short (x0 : List St36) : Option (Bool) :=
 (Option.bind (loopN (fun (s171 : Int) => (bif (decide (s171 < (x0.length : Int))) then (Option.bind (bif inR s171 x0.length then (Option.bind (exergueref11_Short ((nth x0 s171).C_)) fun y313 => (Option.bind (bif (decide (s171 ≥ 8)) then (some true) else (some (!y313))) fun (s319 : Bool) => (bif s319 then (some (.inr (.inr (.inr false)))) else (some (.inl ()))))) else none) (joinX fun (s307 : Unit) => (some (.inl (IntKind.wrap .i64 (s171 + 1)))))) else (some (.inr (.inl ()))))) big 0) (joinX fun (s166 : Unit) => (some true)))
theorem exergueref12_Short_ok {x0 : List St36} {r : Bool} (h : exergueref12_Short x0 = some r) : SC Tryd.prog 12 [lsv encSt36 2 x0] [] (.bool r) [] := by
 refine kFn (fn := Tryd.f12) (fun F hFn hFH hFD => ?_)
 unfold exergueref12_Short at h
 refine kSR ?_
 refine kC 1 [0,2] ?_
 refine kEN ?_
 obtain ⟨y167, hy168, h169⟩ := bindS h
 refine K.cutX (by kernel_rfl) (fun (s166 : Unit) => ([(2, .bool false)], [])) y167 ?_ (fun s166 hs => ?_)
 ·refine kSR ?_
  refine kC 1 [0,2,3] ?_
  refine kEN ?_
  refine kb 0 ?_
  refine kl (fun (s171 : Int) => ([(0, lsv encSt36 2 x0), (2, .bool false), (3, .int .i64 s171)], [])) hy168 [0, 2, 3] (fun s171 x281 hs280 => ?_)
  refine kS ?_
  refine kSR ?_
  refine kC 4 [0,2,3,8] ?_
  refine kEN ?_
  refine kBJ 8 hs280 (fun h283 => ?_) (fun h284 => ?_)
  ·refine kT ?_
   refine kK ?_
   refine PJ.next ?_
   obtain ⟨y308, hy309, h310⟩ := bindS h283
   refine K.cutX (by kernel_rfl) (fun (s307 : Unit) => ([(0, lsv encSt36 2 x0), (2, .bool false), (3, .int .i64 s171)], [])) y308 ?_ (fun s307 hs => ?_)
   ·refine kb 1 ?_
    refine kSR ?_
    refine kC 2 [0,2,3,11,12] ?_
    obtain ⟨hm, h312⟩ := asrt hy309
    refine kI 13 encSt36_len hm ?_
    refine kC 2 [0,2,3,15] ?_
    obtain ⟨y313, hy314, h315⟩ := bindS h312
    refine kA 16 (exergueref11_Short_ok hy314) ?_
    refine kC 1 [0,2,3,4] ?_
    refine kEN ?_
    obtain ⟨s319, hy321, h323⟩ := bindS h315
    refine K.cutN (by kernel_rfl) (fun (s319 : Bool) => ([(0, lsv encSt36 2 x0), (2, .bool false), (3, .int .i64 s171), (22, .bool s319)], [])) s319 ?_ ?_
    ·refine kR ?_
     refine kC 3 [0,2,3,4,19] ?_
     refine kB 19 hy321 (fun h325 => ?_) (fun h326 => ?_)
     ·refine kC 3 [0,2,3,22] ?_
      refine kE ?_
      obtain rfl := oi h325
      exact kN [0, 2, 3, 22]
     ·refine kC 3 [0,2,3,22] ?_
      refine kE ?_
      obtain rfl := oi h326
      exact kN [0, 2, 3, 22]
    ·refine kBJ 22 h323 (fun h328 => ?_) (fun h329 => ?_)
     ·refine kT ?_
      refine kSR ?_
      refine kC 1 [0,2,3] ?_
      refine kEN ?_
      refine kX ?_
      refine PJ.blockRet ?_
      obtain rfl := oi h328
      have h330 := joinX_inr h310
      refine PJ.cutXr (fun e => nomatch e) ?_
      obtain rfl := oi h330
      refine PJ.loopOut (fun e => nomatch e) (fun he333 => ?_)
      have h331 := congrArg some he333
      refine PJ.blockRet ?_
      obtain rfl := oi h331
      have h332 := joinX_inr h169
      refine PJ.cutXr (fun e => nomatch e) ?_
      obtain rfl := oi h332
      exact kZ hFn hFH hFD
     ·refine kF ?_
      refine kK ?_
      refine PJ.blockNormal ?_
      obtain rfl := oi h329
      exact kXl [0, 2, 3]
   ·subst hs
    have h311 := joinX_inl h310
    refine kR ?_
    refine kC 3 [0,2,3] ?_
    refine kE ?_
    obtain rfl := oi h311
    exact kLN [0, 2, 3]
  ·refine kF ?_
   refine K.exit 0 (by kernel_rfl) ?_
   refine PJ.passExit ?_
   obtain rfl := oi h284
   refine PJ.loopOut (fun e => nomatch e) (fun he335 => ?_)
   have h334 := congrArg some he335
   refine PJ.blockOut ?_
   obtain rfl := oi h334
   exact kXl [2]
 ·subst hs
  have h170 := joinX_inl h169
  refine kSR ?_
  refine kC 1 [2] ?_
  refine kEN ?_
  refine kX ?_
  obtain rfl := oi h170
  exact kZ hFn hFH hFD
def plur_Same_1 (x0 : St36) (x1 : St36) : Option (Bool) :=
 (Option.bind (bif (decide (x0.Cat_ = x1.Cat_)) then (Option.bind (rule_Same x0.C_ x1.C_) fun y15 => (some y15)) else (some false)) fun (s7 : Bool) => (some s7))
theorem plur_Same_1_ok {x0 : St36} {x1 : St36} {r : Bool} (h : plur_Same_1 x0 x1 = some r) : SC Tryd.prog 24 [.agg (encSt36 x0), .agg (encSt36 x1)] [] (.bool r) [] := by
 refine kFn (fn := Tryd.f24) (fun F hFn hFH hFD => ?_)
 unfold plur_Same_1 at h
 refine kSR ?_
 refine kC 3 [2,3,4] ?_
 refine kEN ?_
 obtain ⟨s7, hy9, h11⟩ := bindS h
 refine K.cutN (by kernel_rfl) (fun (s7 : Bool) => ([(4, .bool s7)], [])) s7 ?_ ?_
 ·refine kR ?_
  refine kC 6 [2,3,4,10] ?_
  refine kB 10 hy9 (fun h13 => ?_) (fun h14 => ?_)
  ·refine kC 4 [4,10,12,14] ?_
   obtain ⟨y15, hy16, h17⟩ := bindS h13
   refine kA 15 (rule_Same_ok hy16) ?_
   refine kC 2 [4] ?_
   refine kE ?_
   obtain rfl := oi h17
   refine kW (L2 := [(4, .bool y15)]) (H2 := []) hFH hFD [] ?_
   exact kN [4]
  ·refine kC 7 [4] ?_
   refine kE ?_
   obtain rfl := oi h14
   refine kW (L2 := [(4, .bool false)]) (H2 := []) hFH hFD [] ?_
   exact kN [4]
 ·refine kX ?_
  obtain rfl := oi h11
  exact kZ hFn hFH hFD
def api_Ruled__s0 (x0 : List St36) (x1 : List St36) : Option (Bool) :=
 (bif (decide (¬ (x0.length : Int) = (x1.length : Int))) then (some false) else (Option.bind (loopN (fun (s60 : Int) => (bif (decide (s60 < (x0.length : Int))) then (bif inR s60 x0.length then (bif inR s60 x1.length then (Option.bind (plur_Same_1 (nth x0 s60) (nth x1 s60)) fun y100 => (bif (!y100) then (some (.inr (.inr false))) else (some (.inl (IntKind.wrap .i64 (s60 + 1)))))) else none) else none) else (some (.inr (.inl ()))))) big 0) (joinX fun (s55 : Unit) => (some true))))
theorem api_Ruled__s0_ok {x0 : List St36} {x1 : List St36} {r : Bool} (h : api_Ruled__s0 x0 x1 = some r) : SC Tryd.prog 23 [lsv encSt36 2 x0, lsv encSt36 2 x1, .fn (.func 24) [] []] [] (.bool r) [] := by
 refine kFn (fn := Tryd.f23) (fun F hFn hFH hFD => ?_)
 unfold api_Ruled__s0 at h
 refine kSR ?_
 refine kC 1 [0,1,2,6] ?_
 refine kEN ?_
 refine kS ?_
 refine kSR ?_
 refine kC 5 [0,1,2,6,14] ?_
 refine kEN ?_
 refine kBJ 14 h (fun h2 => ?_) (fun h3 => ?_)
 ·refine kT ?_
  refine kSR ?_
  refine kC 1 [0,1,2,6] ?_
  refine kEN ?_
  refine kX ?_
  refine PJ.passRet ?_
  obtain rfl := oi h2
  exact kV [] hFn hFH hFD (v1 := .bool false)
 ·refine kF ?_
  refine kK ?_
  refine PJ.next ?_
  obtain ⟨y56, hy57, h58⟩ := bindS h3
  refine K.cutX (by kernel_rfl) (fun (s55 : Unit) => ([(6, .bool false)], [])) y56 ?_ (fun s55 hs => ?_)
  ·refine kSR ?_
   refine kC 3 [1,2,6,15,16,17] ?_
   refine kEN ?_
   refine kb 0 ?_
   refine kl (fun (s60 : Int) => ([(1, lsv encSt36 2 x1), (2, .fn (.func 24) [] []), (6, .bool false), (15, lsv encSt36 2 x0), (16, .int .i64 (x0.length : Int)), (17, .int .i64 s60)], [])) hy57 [1, 2, 6, 15, 16, 17] (fun s60 x94 hs93 => ?_)
   refine kSR ?_
   refine kC 1 [1,2,6,15,16,17,18] ?_
   refine kEN ?_
   refine kS ?_
   refine kBJ 18 hs93 (fun h96 => ?_) (fun h97 => ?_)
   ·refine kT ?_
    refine kK ?_
    refine PJ.next ?_
    refine kS ?_
    refine kb 1 ?_
    refine kSR ?_
    refine kC 1 [1,2,6,15,16,17,19] ?_
    obtain ⟨hm, h98⟩ := asrt h96
    refine kI 20 encSt36_len hm ?_
    refine kC 4 [1,2,6,7,8,15,16,17] ?_
    refine kEN ?_
    refine kSR ?_
    refine kC 2 [1,2,6,8,15,16,17,22,23] ?_
    obtain ⟨hm, h99⟩ := asrt h98
    refine kI 24 encSt36_len hm ?_
    refine kC 3 [1,2,6,8,9,15,16,17] ?_
    refine kEN ?_
    refine kSR ?_
    refine kC 3 [1,2,6,15,16,17,26,27,28] ?_
    obtain ⟨y100, hy101, h102⟩ := bindS h99
    refine kA 29 (plur_Same_1_ok hy101) ?_
    refine kC 1 [1,2,6,15,16,17,30] ?_
    refine kEN ?_
    refine kBJ 30 h102 (fun h104 => ?_) (fun h105 => ?_)
    ·refine kT ?_
     refine kSR ?_
     refine kC 1 [1,2,6,15,16,17] ?_
     refine kEN ?_
     refine kX ?_
     refine PJ.blockRet ?_
     refine PJ.passRet ?_
     obtain rfl := oi h104
     refine PJ.loopOut (fun e => nomatch e) (fun he108 => ?_)
     have h106 := congrArg some he108
     refine PJ.blockRet ?_
     obtain rfl := oi h106
     have h107 := joinX_inr h58
     refine PJ.cutXr (fun e => nomatch e) ?_
     obtain rfl := oi h107
     exact kV [] hFn hFH hFD (v1 := .bool false)
    ·refine kF ?_
     refine kK ?_
     refine PJ.blockNormal ?_
     refine PJ.next ?_
     refine kR ?_
     refine kC 2 [1,2,6,15,16,17] ?_
     refine kE ?_
     obtain rfl := oi h105
     refine kW (L2 := [(1, lsv encSt36 2 x1), (2, .fn (.func 24) [] []), (6, .bool false), (15, lsv encSt36 2 x0), (16, .int .i64 (x0.length : Int)), (17, .int .i64 (IntKind.wrap .i64 (s60 + 1)))]) (H2 := []) hFH hFD [] ?_
     exact kLN [1, 2, 6, 15, 16, 17]
   ·refine kF ?_
    refine K.exit 0 (by kernel_rfl) ?_
    refine PJ.passExit ?_
    obtain rfl := oi h97
    refine PJ.loopOut (fun e => nomatch e) (fun he110 => ?_)
    have h109 := congrArg some he110
    refine PJ.blockOut ?_
    obtain rfl := oi h109
    exact kXl [6]
  ·subst hs
   have h59 := joinX_inl h58
   refine kSR ?_
   refine kC 1 [6] ?_
   refine kEN ?_
   refine kX ?_
   obtain rfl := oi h59
   exact kV [] hFn hFH hFD (v1 := .bool true)
def plur_Same (x0 : List St36) (x1 : List St36) : Option (Bool) :=
 (Option.bind (api_Ruled__s0 x0 x1) fun y1 => (some y1))
theorem plur_Same_ok {x0 : List St36} {x1 : List St36} {r : Bool} (h : plur_Same x0 x1 = some r) : SC Tryd.prog 13 [lsv encSt36 2 x0, lsv encSt36 2 x1] [] (.bool r) [] := by
 refine kFn (fn := Tryd.f13) (fun F hFn hFH hFD => ?_)
 unfold plur_Same at h
 refine kSR ?_
 refine kC 1 [0,1,4] ?_
 refine kEN ?_
 refine kSR ?_
 refine kC 2 [4,5,6] ?_
 obtain ⟨y1, hy2, h3⟩ := bindS h
 refine kCG (some 7) (args := [lsv encSt36 2 x0, lsv encSt36 2 x1, .fn (.func 24) [] []]) (v := .bool y1) (H2 := []) [] (api_Ruled__s0_ok hy2) ?_
 refine kC 1 [4] ?_
 refine kEN ?_
 refine kX ?_
 obtain rfl := oi h3
 exact kZ hFn hFH hFD
def exerguelaw12_PlurSames (x0 : List St36) (x1 : Int) (x2 : Int) : Option (Bool) :=
 (Option.bind exerguelaw12_shown fun y1 => (Option.bind (Option.bind (Option.bind (exergueref12_Short x0) fun y50 => (bif (!y50) then (some true) else (bif (decide (x1 < 0)) then (some true) else (some ((decide (x1 ≥ (x0.length : Int)))))))) fun (s45 : Bool) => (bif s45 then (some (.inr y1)) else (some (.inl ())))) (joinX fun (s31 : Unit) => (bif room x0.length then (bif inR x1 x0.length then (bif inR x1 x0.length then (Option.bind (bif y1 then (Option.bind (plur_Same x0 x0) fun y94 => (bif y94 then (bif inS 0 ((IntKind.wrap .i64 ((x0.length : Int) - 1))) x0.length then (Option.bind (plur_Same x0 ((cut x0 0 ((IntKind.wrap .i64 ((x0.length : Int) - 1)))))) fun y101 => (bif (!y101) then (Option.bind (plur_Same x0 ((setAt x0 x1 ({ (nth x0 x1) with Cat_ := x2 } : St36)))) fun y107 => (bif inR x1 x0.length then (some ((y107 == ((decide (((nth x0 x1).Cat_) = x2)))))) else none)) else (some false))) else none) else (some false))) else (some false)) fun (s86 : Bool) => (some s86)) else none) else none) else none))))
theorem exerguelaw12_PlurSames_ok {x0 : List St36} {x1 : Int} {x2 : Int} {r : Bool} (h : exerguelaw12_PlurSames x0 x1 x2 = some r) : SC Tryd.prog 4 [lsv encSt36 2 x0, .int .i64 x1, .int .i64 x2] [] (.bool r) [] := by
 refine kFn (fn := Tryd.f4) (fun F hFn hFH hFD => ?_)
 unfold exerguelaw12_PlurSames at h
 refine kSR ?_
 refine kC 1 [0,1,2,6] ?_
 refine kEN ?_
 refine kSR ?_
 obtain ⟨y1, hy2, h3⟩ := bindS h
 refine kA 9 (exerguelaw12_shown_ok hy2) ?_
 refine kC 1 [0,1,2,6,7] ?_
 refine kEN ?_
 obtain ⟨y32, hy33, h34⟩ := bindS h3
 refine K.cutX (by kernel_rfl) (fun (s31 : Unit) => ([(0, lsv encSt36 2 x0), (1, .int .i64 x1), (2, .int .i64 x2), (6, .bool false), (7, .bool y1)], [])) y32 ?_ (fun s31 hs => ?_)
 ·obtain ⟨s45, hy47, h49⟩ := bindS hy33
  refine K.cutN (by kernel_rfl) (fun (s45 : Bool) => ([(0, lsv encSt36 2 x0), (1, .int .i64 x1), (2, .int .i64 x2), (6, .bool false), (7, .bool y1), (22, .bool s45)], [])) s45 ?_ ?_
  ·refine kR ?_
   refine kC 1 [0,1,2,6,7,10] ?_
   obtain ⟨y50, hy51, h52⟩ := bindS hy47
   refine kA 11 (exergueref12_Short_ok hy51) ?_
   refine kC 2 [0,1,2,6,7,13] ?_
   refine kB 13 h52 (fun h54 => ?_) (fun h55 => ?_)
   ·refine kC 9 [0,1,2,6,7,22] ?_
    refine kE ?_
    obtain rfl := oi h54
    exact kN [0, 1, 2, 6, 7, 22]
   ·refine kC 4 [0,1,2,6,7,17] ?_
    refine kB 17 h55 (fun h57 => ?_) (fun h58 => ?_)
    ·refine kC 5 [0,1,2,6,7,22] ?_
     refine kE ?_
     obtain rfl := oi h57
     exact kN [0, 1, 2, 6, 7, 22]
    ·refine kC 5 [0,1,2,6,7,22] ?_
     refine kE ?_
     obtain rfl := oi h58
     exact kN [0, 1, 2, 6, 7, 22]
  ·refine kBJ 22 h49 (fun h60 => ?_) (fun h61 => ?_)
   ·refine kT ?_
    refine kSR ?_
    refine kC 2 [0,1,2,6,7] ?_
    refine kEN ?_
    refine kX ?_
    obtain rfl := oi h60
    have h62 := joinX_inr h34
    refine PJ.cutXr (fun e => nomatch e) ?_
    obtain rfl := oi h62
    exact kZ hFn hFH hFD
   ·refine kF ?_
    refine kK ?_
    obtain rfl := oi h61
    exact kXl [0, 1, 2, 6, 7]
 ·subst hs
  have h35 := joinX_inl h34
  refine kSR ?_
  refine kC 2 [0,1,2,6,7,24,25] ?_
  obtain ⟨hm, h63⟩ := asrt h35
  refine RJ.rel (d := (some 26)) (ef' := ⟨.vc 0, [], [(0, .vec x0.length 2 37 (x0.flatMap encSt36))]⟩) (tr2 := []) (H2 := [vecL encSt36 2 37 x0]) (by kernel_rfl) hm (fun hc => rfl) (by kernel_rfl) ?_
  refine kC 1 [0,1,2,6,7,8] ?_
  refine kEN ?_
  refine kSR ?_
  refine kC 3 [0,1,2,6,7,8,27,28,29] ?_
  obtain ⟨hm, h64⟩ := asrt h63
  refine kQ 30 (.ptr 0 ((x1 : Int).toNat * 2)) [0] (tr2 := []) hm ?_
  refine kC 1 [0,1,2,6,7,8,29,31] ?_
  obtain ⟨hm, h65⟩ := asrt h64
  refine RJ.rel (d := none) (ef := ⟨.undef, [0], [(0, .vec x0.length 2 37 (splice (x0.flatMap encSt36) ((((x1 : Int).toNat * 2) + 0)) [.int .i64 x2]))]⟩) (ef' := ⟨.undef, [0], [(0, vecL encSt36 2 37 (setAt x0 x1 ({ (nth x0 x1) with Cat_ := x2 } : St36)))]⟩) (c := Nat.ble ((((x1 : Int).toNat * 2) + 0) + [.int .i64 x2].length) (x0.flatMap encSt36).length) (tr2 := []) (H2 := [vecL encSt36 2 37 ((setAt x0 x1 ({ (nth x0 x1) with Cat_ := x2 } : St36)))]) (by kernel_rfl) (storeF_ok encSt36_len (by kernel_rfl) hm) (fun hc => N.storeF encSt36_len (g := (fun q : St36 => ({ q with Cat_ := x2 } : St36))) (fun _ => rfl) (by kernel_rfl) hm) (by kernel_rfl) ?_
  refine kEN ?_
  obtain ⟨s86, hy88, h90⟩ := bindS h65
  refine K.cutN (by kernel_rfl) (fun (s86 : Bool) => ([(6, .bool s86)], [])) s86 ?_ ?_
  ·refine J.keep [0, 1, 2, 6, 7, 8] (L2 := [(0, lsv encSt36 2 x0), (1, .int .i64 x1), (2, .int .i64 x2), (6, .bool false), (7, .bool y1), (8, .vc 0)]) (by kernel_rfl) ?_
   refine K.draw (by kernel_rfl) (by kernel_rfl) (by kernel_rfl) (H2 := [vecL encSt36 2 37 ((setAt x0 x1 ({ (nth x0 x1) with Cat_ := x2 } : St36))), .res, .res, .res]) (by kernel_rfl) (n := 1) (by kernel_rfl) ?_
   refine kD 2 ?_
   refine kB 33 hy88 (fun h92 => ?_) (fun h93 => ?_)
   ·refine kD 2 ?_
    obtain ⟨y94, hy95, h96⟩ := bindS h92
    refine RJ.call0 (d := (some 36)) (f := 13) (args := [lsv encSt36 2 x0, lsv encSt36 2 x0]) (v := .bool y94) (tr2 := [([], []), ([], []), ([], []), ([], []), ([], [2, 3])]) (by kernel_rfl) (by kernel_rfl) (.cons (Le.refl _) (.cons (Le.refl _) .nil)) (plur_Same_ok hy95) (by kernel_rfl) ?_
    refine kD 2 ?_
    refine kB 38 h96 (fun h98 => ?_) (fun h99 => ?_)
    ·refine kD 5 ?_
     obtain ⟨hm, h100⟩ := asrt h98
     refine RJ.rel (d := (some 44)) (ef := ⟨.lst (((IntKind.wrap .i64 ((x0.length : Int) - 1)) : Int).toNat - (0 : Int).toNat) 2 (((x0.flatMap encSt36).take (((IntKind.wrap .i64 ((x0.length : Int) - 1)) : Int).toNat * 2)).drop ((0 : Int).toNat * 2)), [], []⟩) (ef' := ⟨.lst (cut x0 0 ((IntKind.wrap .i64 ((x0.length : Int) - 1)))).length 2 ((cut x0 0 ((IntKind.wrap .i64 ((x0.length : Int) - 1)))).flatMap encSt36), [], []⟩) (c := inS 0 ((IntKind.wrap .i64 ((x0.length : Int) - 1))) x0.length) (tr2 := [([], []), ([], []), ([], []), ([], []), ([], [2, 3]), ([], []), ([], []), ([], []), ([], []), ([], []), ([], []), ([], []), ([], [])]) (H2 := [vecL encSt36 2 37 ((setAt x0 x1 ({ (nth x0 x1) with Cat_ := x2 } : St36))), .res, .res, .res]) (by kernel_rfl) hm (fun hc => N.slice encSt36_len hc) (by kernel_rfl) ?_
     obtain ⟨y101, hy102, h103⟩ := bindS h100
     refine RJ.call0 (d := (some 45)) (f := 13) (args := [lsv encSt36 2 x0, lsv encSt36 2 ((cut x0 0 ((IntKind.wrap .i64 ((x0.length : Int) - 1)))))]) (v := .bool y101) (tr2 := [([], []), ([], []), ([], []), ([], []), ([], [2, 3]), ([], []), ([], []), ([], []), ([], []), ([], []), ([], []), ([], []), ([], []), ([], [4, 5])]) (by kernel_rfl) (by kernel_rfl) (.cons (Le.refl _) (.cons (Le.refl _) .nil)) (plur_Same_ok hy102) (by kernel_rfl) ?_
     refine RJ.segD 3 (tr2 := [([], []), ([], []), ([], []), ([], []), ([], [2, 3]), ([], []), ([], []), ([], []), ([], []), ([], []), ([], []), ([], []), ([], []), ([], [4, 5]), ([], []), ([], []), ([], [])]) (L2 := [(48, .bool (!y101)), (47, .bool (!y101)), (46, .bool (!y101)), (45, .bool y101), (44, lsv encSt36 2 ((cut x0 0 ((IntKind.wrap .i64 ((x0.length : Int) - 1)))))), (43, .int .i64 ((IntKind.wrap .i64 ((x0.length : Int) - 1)))), (42, .int .i64 (x0.length : Int)), (41, lsv encSt36 2 x0), (40, lsv encSt36 2 x0), (39, lsv encSt36 2 x0), (38, .bool true), (38, .bool y94), (37, .bool y94), (36, .bool y94), (35, lsv encSt36 2 x0), (34, lsv encSt36 2 x0), (33, .bool true), (33, .bool y1), (32, .bool y1), (0, lsv encSt36 2 x0), (1, .int .i64 x1), (2, .int .i64 x2), (6, .bool false), (7, .bool y1), (8, .vc 0)]) (H2 := [vecL encSt36 2 37 ((setAt x0 x1 ({ (nth x0 x1) with Cat_ := x2 } : St36))), .res, .res, .res]) (by kernel_rfl) ?_
     refine kB 48 h103 (fun h105 => ?_) (fun h106 => ?_)
     ·refine kD 2 ?_
      obtain ⟨y107, hy108, h109⟩ := bindS h105
      refine RJ.callL (d := (some 51)) (f := 13) (args := [lsv encSt36 2 x0, .vc 0]) (args0 := [lsv encSt36 2 x0, .vc 0]) (args1 := [lsv encSt36 2 x0, lsv encSt36 2 ((setAt x0 x1 ({ (nth x0 x1) with Cat_ := x2 } : St36)))]) (H0 := [vecL encSt36 2 37 ((setAt x0 x1 ({ (nth x0 x1) with Cat_ := x2 } : St36)))]) (v := .bool y107) (tr2 := [([], []), ([], []), ([], []), ([], []), ([], [2, 3]), ([], []), ([], []), ([], []), ([], []), ([], []), ([], []), ([], []), ([], []), ([], [4, 5]), ([], []), ([], []), ([], []), ([], []), ([], []), ([0, 1], [6, 7])]) [0] (by kernel_rfl) (by kernel_rfl) (by kernel_rfl) (by kernel_rfl) (by decide) (by kernel_rfl) (by kernel_rfl) (by kernel_rfl) (by kernel_rfl) (.cons (Le.refl _) (.cons (Le.refl _) .nil)) (plur_Same_ok hy108) (by kernel_rfl) (by kernel_rfl) ?_
      refine kD 2 ?_
      obtain ⟨hm, h110⟩ := asrt h109
      refine kJ 54 (tr2 := [([], []), ([], []), ([], []), ([], []), ([], [2, 3]), ([], []), ([], []), ([], []), ([], []), ([], []), ([], []), ([], []), ([], []), ([], [4, 5]), ([], []), ([], []), ([], []), ([], []), ([], []), ([0, 1], [6, 7]), ([], []), ([], []), ([], [])]) encSt36_len hm ?_
      refine kD 7 ?_
      refine kE ?_
      obtain rfl := oi h110
      refine kW (L2 := [(6, .bool ((y107 == ((decide (((nth x0 x1).Cat_) = x2))))))]) (H2 := []) hFH hFD [] ?_
      exact kN [6]
     ·refine kD 13 ?_
      refine kE ?_
      obtain rfl := oi h106
      refine kW (L2 := [(6, .bool false)]) (H2 := []) hFH hFD [] ?_
      exact kN [6]
    ·refine kD 23 ?_
     refine kE ?_
     obtain rfl := oi h99
     refine kW (L2 := [(6, .bool false)]) (H2 := []) hFH hFD [] ?_
     exact kN [6]
   ·refine kD 28 ?_
    refine kE ?_
    obtain rfl := oi h93
    refine kW (L2 := [(6, .bool false)]) (H2 := []) hFH hFD [] ?_
    exact kN [6]
  ·refine kX ?_
   obtain rfl := oi h90
   exact kZ hFn hFH hFD
end Go.Proofs.YteaokhdkocddcaaDoor
