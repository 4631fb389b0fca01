/-
  What the functions of this program come to, as functions of natives, each with the proof that it does. No conditions.
-/
import Derived.Test.YtlabcjijjeeobaaProg
import Derived.Test.YtlabcjijjeeobaaSyV
import Derived.Test.YtlabcjijjeeobaaGa
namespace Go.Proofs.Ytlabcjijjeeobaa
open Go Go.Sy Go.RowKit
set_option linter.unusedVariables false
set_option linter.unusedSimpArgs false
set_option maxRecDepth 100000

def exerguelaw08_CrcApart (x0 : List Int) (x1 : Int) (x2 : St36) : Option (Bool) :=
  (Option.bind exerguelaw08_shown fun y1 => (Option.bind (Option.bind (bif (decide ((x0.length : Int) > 2000)) then (some true) else (bif (decide (x1 < 0)) then (some true) else (bif (decide (x1 > ((IntKind.wrap .i64 ((x0.length : Int) - 4))))) then (some true) else (some (((decide (x2.a0_ = 0)) && ((decide (x2.a1_ = 0)) && ((decide (x2.a2_ = 0)) && ((decide (x2.a3_ = 0)) && true))))))))) fun (s45 : Bool) => (bif s45 then (some (.inr y1)) else (some (.inl ())))) (joinX fun (s31 : Unit) => (bif room x0.length then (Option.bind (loopN (fun (s135 : Int × (List Int)) => (bif (decide (s135.1 < 4)) then (bif inR (IntKind.wrap .i64 (x1 + s135.1)) s135.2.length then (bif inR (IntKind.wrap .i64 (x1 + s135.1)) s135.2.length then (bif (decide (s135.1 = 0)) then (bif inR (IntKind.wrap .i64 (x1 + s135.1)) s135.2.length then (bif inR (IntKind.wrap .i64 (x1 + s135.1)) s135.2.length then (some (.inl ((IntKind.wrap .i64 (s135.1 + 1)), (setAt s135.2 (IntKind.wrap .i64 (x1 + s135.1)) ((bits .xor .u8 ((nth s135.2 (IntKind.wrap .i64 (x1 + s135.1)))) x2.a0_)))))) else none) else none) else (bif (decide (s135.1 = 1)) then (bif inR (IntKind.wrap .i64 (x1 + s135.1)) s135.2.length then (bif inR (IntKind.wrap .i64 (x1 + s135.1)) s135.2.length then (some (.inl ((IntKind.wrap .i64 (s135.1 + 1)), (setAt s135.2 (IntKind.wrap .i64 (x1 + s135.1)) ((bits .xor .u8 ((nth s135.2 (IntKind.wrap .i64 (x1 + s135.1)))) x2.a1_)))))) else none) else none) else (bif (decide (s135.1 = 2)) then (bif inR (IntKind.wrap .i64 (x1 + s135.1)) s135.2.length then (bif inR (IntKind.wrap .i64 (x1 + s135.1)) s135.2.length then (some (.inl ((IntKind.wrap .i64 (s135.1 + 1)), (setAt s135.2 (IntKind.wrap .i64 (x1 + s135.1)) ((bits .xor .u8 ((nth s135.2 (IntKind.wrap .i64 (x1 + s135.1)))) x2.a2_)))))) else none) else none) else (bif (decide (s135.1 = 3)) then (bif inR (IntKind.wrap .i64 (x1 + s135.1)) s135.2.length then (bif inR (IntKind.wrap .i64 (x1 + s135.1)) s135.2.length then (some (.inl ((IntKind.wrap .i64 (s135.1 + 1)), (setAt s135.2 (IntKind.wrap .i64 (x1 + s135.1)) ((bits .xor .u8 ((nth s135.2 (IntKind.wrap .i64 (x1 + s135.1)))) x2.a3_)))))) else none) else none) else none)))) else none) else none) else (some (.inr s135.2)))) big (0, x0)) fun (s130 : (List Int)) => (Option.bind (bif y1 then (Option.bind (crc_Of s130) fun y227 => (Option.bind (crc_Of x0) fun y230 => (bif (decide (¬ y227 = y230)) then (Option.bind (crc_On 7 s130) fun y236 => (Option.bind (crc_On 7 x0) fun y239 => (some (decide (¬ y236 = y239))))) else (some false)))) else (some false)) fun (s219 : Bool) => (some s219))) else none))))
theorem exerguelaw08_CrcApart_ok {x0 : List Int} {x1 : Int} {x2 : St36} {r : Bool} (h : exerguelaw08_CrcApart x0 x1 x2 = some r) : SC Try.prog 9 [lsv (encI .u8) 1 x0, .int .i64 x1, .agg [.int .u8 x2.a0_, .int .u8 x2.a1_, .int .u8 x2.a2_, .int .u8 x2.a3_]] [] (.bool r) [] := by
  refine K.fn (fn := Try.f9) (by kernel_rfl) (by kernel_rfl) (by kernel_rfl) (by kernel_rfl) (by kernel_rfl) (fun F hFn hFH hFD => ?_)
  unfold exerguelaw08_CrcApart at h
  refine K.seq (by kernel_rfl) ?_
  refine K.region (by kernel_rfl) ?_
  refine RJ.seg 2 [0, 1, 5, 6] (L2 := [(0, lsv (encI .u8) 1 x0), (1, .int .i64 x1), (5, .ptr 0 0), (6, .bool false)]) (H2 := [.box [.int .u8 x2.a0_, .int .u8 x2.a1_, .int .u8 x2.a2_, .int .u8 x2.a3_]]) (by kernel_rfl) ?_
  refine RJ.end (by kernel_rfl) ?_
  refine PJ.next ?_
  refine K.seq (by kernel_rfl) ?_
  refine K.region (by kernel_rfl) ?_
  obtain ⟨y1, hy2, h3⟩ := bindS h
  refine RJ.call0 (d := (some 10)) (f := 10) (args := []) (v := .bool y1) (tr2 := []) (by kernel_rfl) (by kernel_rfl) .nil (exerguelaw08_shown_ok hy2) (by kernel_rfl) ?_
  refine RJ.seg 1 [0, 1, 5, 6, 7] (L2 := [(0, lsv (encI .u8) 1 x0), (1, .int .i64 x1), (5, .ptr 0 0), (6, .bool false), (7, .bool y1)]) (H2 := [.box [.int .u8 x2.a0_, .int .u8 x2.a1_, .int .u8 x2.a2_, .int .u8 x2.a3_]]) (by kernel_rfl) ?_
  refine RJ.end (by kernel_rfl) ?_
  refine PJ.next ?_
  obtain ⟨y32, hy33, h34⟩ := bindS h3
  refine K.cutX (by kernel_rfl) (fun (s31 : Unit) => ([(0, lsv (encI .u8) 1 x0), (1, .int .i64 x1), (5, .ptr 0 0), (6, .bool false), (7, .bool y1)], [.box [.int .u8 x2.a0_, .int .u8 x2.a1_, .int .u8 x2.a2_, .int .u8 x2.a3_]])) y32 ?_ (fun s31 hs => ?_)
  · obtain ⟨s45, hy47, h49⟩ := bindS hy33
    refine K.cutN (by kernel_rfl) (fun (s45 : Bool) => ([(0, lsv (encI .u8) 1 x0), (1, .int .i64 x1), (5, .ptr 0 0), (6, .bool false), (7, .bool y1), (29, .bool s45)], [.box [.int .u8 x2.a0_, .int .u8 x2.a1_, .int .u8 x2.a2_, .int .u8 x2.a3_]])) s45 ?_ ?_
    · refine K.region (by kernel_rfl) ?_
      refine RJ.seg 4 [0, 1, 5, 6, 7, 14] (L2 := [(0, lsv (encI .u8) 1 x0), (1, .int .i64 x1), (5, .ptr 0 0), (6, .bool false), (7, .bool y1), (14, .bool ((decide ((x0.length : Int) > 2000))))]) (H2 := [.box [.int .u8 x2.a0_, .int .u8 x2.a1_, .int .u8 x2.a2_, .int .u8 x2.a3_]]) (by kernel_rfl) ?_
      refine RJ.caseB 14 (b := (decide ((x0.length : Int) > 2000))) (by kernel_rfl) (fun hb50 => ?_) (fun hb50 => ?_)
      · have h51 := condT hb50 hy47
        refine RJ.seg 15 [0, 1, 5, 6, 7, 29] (L2 := [(0, lsv (encI .u8) 1 x0), (1, .int .i64 x1), (5, .ptr 0 0), (6, .bool false), (7, .bool y1), (29, .bool true)]) (H2 := [.box [.int .u8 x2.a0_, .int .u8 x2.a1_, .int .u8 x2.a2_, .int .u8 x2.a3_]]) (by kernel_rfl) ?_
        refine RJ.end (by kernel_rfl) ?_
        obtain rfl := Option.some.inj h51
        exact PJ.cutN [0, 1, 5, 6, 7, 29] (by kernel_rfl) (by kernel_rfl)
      · have h52 := condF hb50 hy47
        refine RJ.seg 4 [0, 1, 5, 6, 7, 18] (L2 := [(0, lsv (encI .u8) 1 x0), (1, .int .i64 x1), (5, .ptr 0 0), (6, .bool false), (7, .bool y1), (18, .bool (decide (x1 < 0)))]) (H2 := [.box [.int .u8 x2.a0_, .int .u8 x2.a1_, .int .u8 x2.a2_, .int .u8 x2.a3_]]) (by kernel_rfl) ?_
        refine RJ.caseB 18 (b := (decide (x1 < 0))) (by kernel_rfl) (fun hb53 => ?_) (fun hb53 => ?_)
        · have h54 := condT hb53 h52
          refine RJ.seg 11 [0, 1, 5, 6, 7, 29] (L2 := [(0, lsv (encI .u8) 1 x0), (1, .int .i64 x1), (5, .ptr 0 0), (6, .bool false), (7, .bool y1), (29, .bool true)]) (H2 := [.box [.int .u8 x2.a0_, .int .u8 x2.a1_, .int .u8 x2.a2_, .int .u8 x2.a3_]]) (by kernel_rfl) ?_
          refine RJ.end (by kernel_rfl) ?_
          obtain rfl := Option.some.inj h54
          exact PJ.cutN [0, 1, 5, 6, 7, 29] (by kernel_rfl) (by kernel_rfl)
        · have h55 := condF hb53 h52
          refine RJ.seg 7 [0, 1, 5, 6, 7, 25] (L2 := [(0, lsv (encI .u8) 1 x0), (1, .int .i64 x1), (5, .ptr 0 0), (6, .bool false), (7, .bool y1), (25, .bool ((decide (x1 > ((IntKind.wrap .i64 ((x0.length : Int) - 4)))))))]) (H2 := [.box [.int .u8 x2.a0_, .int .u8 x2.a1_, .int .u8 x2.a2_, .int .u8 x2.a3_]]) (by kernel_rfl) ?_
          refine RJ.caseB 25 (b := (decide (x1 > ((IntKind.wrap .i64 ((x0.length : Int) - 4)))))) (by kernel_rfl) (fun hb56 => ?_) (fun hb56 => ?_)
          · have h57 := condT hb56 h55
            refine RJ.seg 4 [0, 1, 5, 6, 7, 29] (L2 := [(0, lsv (encI .u8) 1 x0), (1, .int .i64 x1), (5, .ptr 0 0), (6, .bool false), (7, .bool y1), (29, .bool true)]) (H2 := [.box [.int .u8 x2.a0_, .int .u8 x2.a1_, .int .u8 x2.a2_, .int .u8 x2.a3_]]) (by kernel_rfl) ?_
            refine RJ.end (by kernel_rfl) ?_
            obtain rfl := Option.some.inj h57
            exact PJ.cutN [0, 1, 5, 6, 7, 29] (by kernel_rfl) (by kernel_rfl)
          · have h58 := condF hb56 h55
            refine RJ.seg 4 [0, 1, 5, 6, 7, 29] (L2 := [(0, lsv (encI .u8) 1 x0), (1, .int .i64 x1), (5, .ptr 0 0), (6, .bool false), (7, .bool y1), (29, .bool (((decide (x2.a0_ = 0)) && ((decide (x2.a1_ = 0)) && ((decide (x2.a2_ = 0)) && ((decide (x2.a3_ = 0)) && true))))))]) (H2 := [.box [.int .u8 x2.a0_, .int .u8 x2.a1_, .int .u8 x2.a2_, .int .u8 x2.a3_]]) (by kernel_rfl) ?_
            refine RJ.end (by kernel_rfl) ?_
            obtain rfl := Option.some.inj h58
            exact PJ.cutN [0, 1, 5, 6, 7, 29] (by kernel_rfl) (by kernel_rfl)
    · refine J.caseB 29 (b := s45) (by kernel_rfl) (fun hb59 => ?_) (fun hb59 => ?_)
      · have h60 := condT hb59 h49
        refine K.condT (by kernel_rfl) ?_
        refine K.seq (by kernel_rfl) ?_
        refine K.region (by kernel_rfl) ?_
        refine RJ.seg 2 [0, 1, 5, 6, 7] (L2 := [(0, lsv (encI .u8) 1 x0), (1, .int .i64 x1), (5, .ptr 0 0), (6, .bool y1), (7, .bool y1)]) (H2 := [.box [.int .u8 x2.a0_, .int .u8 x2.a1_, .int .u8 x2.a2_, .int .u8 x2.a3_]]) (by kernel_rfl) ?_
        refine RJ.end (by kernel_rfl) ?_
        refine PJ.next ?_
        refine K.ret (by kernel_rfl) ?_
        obtain rfl := Option.some.inj h60
        have h62 := joinX_inr h34
        refine PJ.cutXr (fun e => nomatch e) ?_
        obtain rfl := Option.some.inj h62
        exact K.ret0 (.inr rfl) hFn hFH hFD (by kernel_rfl) (by kernel_rfl) (by kernel_rfl)
      · have h61 := condF hb59 h49
        refine K.condF (by kernel_rfl) ?_
        refine K.skip (by kernel_rfl) ?_
        obtain rfl := Option.some.inj h61
        exact PJ.cutXl [0, 1, 5, 6, 7] (by kernel_rfl) (by kernel_rfl)
  · subst hs
    have h35 := joinX_inl h34
    refine K.seq (by kernel_rfl) ?_
    refine K.region (by kernel_rfl) ?_
    refine RJ.seg 2 [0, 1, 5, 6, 7, 31, 32] (L2 := [(0, lsv (encI .u8) 1 x0), (1, .int .i64 x1), (5, .ptr 0 0), (6, .bool false), (7, .bool y1), (31, .nl), (32, lsv (encI .u8) 1 x0)]) (H2 := [.box [.int .u8 x2.a0_, .int .u8 x2.a1_, .int .u8 x2.a2_, .int .u8 x2.a3_]]) (by kernel_rfl) ?_
    obtain ⟨hm, h63⟩ := asrt h35
    refine RJ.rel (d := (some 33)) (ef := ⟨.vc 1, [], [(1, .vec x0.length 1 5 (x0.flatMap (encI .u8)))]⟩) (ef' := ⟨.vc 1, [], [(1, .vec x0.length 1 5 (x0.flatMap (encI .u8)))]⟩) (c := roomB x0.length) (tr2 := []) (H2 := [.box [.int .u8 x2.a0_, .int .u8 x2.a1_, .int .u8 x2.a2_, .int .u8 x2.a3_], vecL (encI .u8) 1 5 x0]) (by kernel_rfl) (roomB_of_room hm) (fun hc => rfl) (by kernel_rfl) ?_
    refine RJ.seg 1 [0, 1, 5, 6, 7, 8] (L2 := [(0, lsv (encI .u8) 1 x0), (1, .int .i64 x1), (5, .ptr 0 0), (6, .bool false), (7, .bool y1), (8, .vc 1)]) (H2 := [.box [.int .u8 x2.a0_, .int .u8 x2.a1_, .int .u8 x2.a2_, .int .u8 x2.a3_], vecL (encI .u8) 1 5 x0]) (by kernel_rfl) ?_
    refine RJ.end (by kernel_rfl) ?_
    refine PJ.next ?_
    obtain ⟨s130, hy132, h134⟩ := bindS h63
    refine K.cutN (by kernel_rfl) (fun (s130 : (List Int)) => ([(0, lsv (encI .u8) 1 x0), (6, .bool false), (7, .bool y1), (8, .vc 0)], [vecL (encI .u8) 1 5 s130])) s130 ?_ ?_
    · refine K.seq (by kernel_rfl) ?_
      refine K.region (by kernel_rfl) ?_
      refine RJ.seg 1 [0, 1, 5, 6, 7, 8, 9] (L2 := [(0, lsv (encI .u8) 1 x0), (1, .int .i64 x1), (5, .ptr 0 0), (6, .bool false), (7, .bool y1), (8, .vc 1), (9, .int .i64 0)]) (H2 := [.box [.int .u8 x2.a0_, .int .u8 x2.a1_, .int .u8 x2.a2_, .int .u8 x2.a3_], vecL (encI .u8) 1 5 x0]) (by kernel_rfl) ?_
      refine RJ.end (by kernel_rfl) ?_
      refine PJ.next ?_
      refine K.block 0 (by kernel_rfl) ?_
      refine K.loop (by kernel_rfl) (fun (s135 : Int × (List Int)) => ([(0, lsv (encI .u8) 1 x0), (1, .int .i64 x1), (5, .ptr 0 0), (6, .bool false), (7, .bool y1), (8, .vc 1), (9, .int .i64 s135.1)], [.box [.int .u8 x2.a0_, .int .u8 x2.a1_, .int .u8 x2.a2_, .int .u8 x2.a3_], vecL (encI .u8) 1 5 s135.2])) hy132 [0, 1, 5, 6, 7, 8, 9] (by kernel_rfl) (by kernel_rfl) (fun s135 x173 hs172 => ?_)
      refine K.seq (by kernel_rfl) ?_
      refine K.seq (by kernel_rfl) ?_
      refine K.region (by kernel_rfl) ?_
      refine RJ.seg 2 [0, 1, 5, 6, 7, 8, 9, 35] (L2 := [(0, lsv (encI .u8) 1 x0), (1, .int .i64 x1), (5, .ptr 0 0), (6, .bool false), (7, .bool y1), (8, .vc 1), (9, .int .i64 s135.1), (35, .bool (decide (s135.1 < 4)))]) (H2 := [.box [.int .u8 x2.a0_, .int .u8 x2.a1_, .int .u8 x2.a2_, .int .u8 x2.a3_], vecL (encI .u8) 1 5 s135.2]) (by kernel_rfl) ?_
      refine RJ.end (by kernel_rfl) ?_
      refine PJ.next ?_
      refine J.caseB 35 (b := (decide (s135.1 < 4))) (by kernel_rfl) (fun hb174 => ?_) (fun hb174 => ?_)
      · have h175 := condT hb174 hs172
        refine K.condT (by kernel_rfl) ?_
        refine K.skip (by kernel_rfl) ?_
        refine PJ.next ?_
        refine K.seq (by kernel_rfl) ?_
        refine K.block 1 (by kernel_rfl) ?_
        refine J.keep [0, 1, 5, 6, 7, 8, 9] (L2 := [(0, lsv (encI .u8) 1 x0), (1, .int .i64 x1), (5, .ptr 0 0), (6, .bool false), (7, .bool y1), (8, .vc 1), (9, .int .i64 s135.1)]) (by kernel_rfl) ?_
        refine K.draw (by kernel_rfl) (by kernel_rfl) (by kernel_rfl) (H2 := [.box [.int .u8 x2.a0_, .int .u8 x2.a1_, .int .u8 x2.a2_, .int .u8 x2.a3_], vecL (encI .u8) 1 5 s135.2]) (by kernel_rfl) (n := 2) (by kernel_rfl) ?_
        refine RJ.segD 8 (tr2 := [([], []), ([], []), ([], []), ([], []), ([], []), ([], []), ([], []), ([], [])]) (L2 := [(45, .int .i64 (IntKind.wrap .i64 (x1 + s135.1))), (44, .int .i64 s135.1), (43, .int .i64 x1), (42, .vc 1), (41, .int .i64 (IntKind.wrap .i64 (x1 + s135.1))), (40, .int .i64 s135.1), (39, .int .i64 x1), (38, .vc 1), (0, lsv (encI .u8) 1 x0), (1, .int .i64 x1), (5, .ptr 0 0), (6, .bool false), (7, .bool y1), (8, .vc 1), (9, .int .i64 s135.1)]) (H2 := [.box [.int .u8 x2.a0_, .int .u8 x2.a1_, .int .u8 x2.a2_, .int .u8 x2.a3_], vecL (encI .u8) 1 5 s135.2]) (by kernel_rfl) ?_
        obtain ⟨hm, h177⟩ := asrt h175
        refine RJ.rel (d := (some 46)) (ef := ⟨.ptr 1 (((IntKind.wrap .i64 (x1 + s135.1)) : Int).toNat * 1), [1], []⟩) (ef' := ⟨.ptr 1 (((IntKind.wrap .i64 (x1 + s135.1)) : Int).toNat * 1), [1], []⟩) (c := inR (IntKind.wrap .i64 (x1 + s135.1)) s135.2.length) (tr2 := [([], []), ([], []), ([], []), ([], []), ([], []), ([], []), ([], []), ([], []), ([3], [])]) (H2 := [.box [.int .u8 x2.a0_, .int .u8 x2.a1_, .int .u8 x2.a2_, .int .u8 x2.a3_], vecL (encI .u8) 1 5 s135.2]) (by kernel_rfl) hm (fun hc => rfl) (by kernel_rfl) ?_
        obtain ⟨hm, h178⟩ := asrt h177
        refine RJ.rel (d := (some 47)) (ef := ⟨(((s135.2).flatMap (encI .u8)).drop (((IntKind.wrap .i64 (x1 + s135.1)) : Int).toNat * 1)).headD .undef, [1], []⟩) (ef' := ⟨.int .u8 ((nth s135.2 (IntKind.wrap .i64 (x1 + s135.1)))), [1], []⟩) (c := Nat.blt (((IntKind.wrap .i64 (x1 + s135.1)) : Int).toNat * 1) (s135.2.flatMap (encI .u8)).length) (tr2 := [([], []), ([], []), ([], []), ([], []), ([], []), ([], []), ([], []), ([], []), ([3], []), ([2, 3], [])]) (H2 := [.box [.int .u8 x2.a0_, .int .u8 x2.a1_, .int .u8 x2.a2_, .int .u8 x2.a3_], vecL (encI .u8) 1 5 s135.2]) (by kernel_rfl) (loadv_ok (encI_len .u8) rfl hm) (fun hc => N.load1 (encI_len .u8) (fun _ => rfl) hm) (by kernel_rfl) ?_
        refine RJ.segD 1 (tr2 := [([], []), ([], []), ([], []), ([], []), ([], []), ([], []), ([], []), ([], []), ([3], []), ([2, 3], []), ([], [])]) (L2 := [(48, .int .i64 s135.1), (47, .int .u8 ((nth s135.2 (IntKind.wrap .i64 (x1 + s135.1))))), (46, .ptr 1 ((((IntKind.wrap .i64 (x1 + s135.1)) : Int).toNat * 1))), (45, .int .i64 (IntKind.wrap .i64 (x1 + s135.1))), (44, .int .i64 s135.1), (43, .int .i64 x1), (42, .vc 1), (41, .int .i64 (IntKind.wrap .i64 (x1 + s135.1))), (40, .int .i64 s135.1), (39, .int .i64 x1), (38, .vc 1), (0, lsv (encI .u8) 1 x0), (1, .int .i64 x1), (5, .ptr 0 0), (6, .bool false), (7, .bool y1), (8, .vc 1), (9, .int .i64 s135.1)]) (H2 := [.box [.int .u8 x2.a0_, .int .u8 x2.a1_, .int .u8 x2.a2_, .int .u8 x2.a3_], vecL (encI .u8) 1 5 s135.2]) (by kernel_rfl) ?_
        cases hb179 : (decide (s135.1 = 0))
        · have h181 := condF hb179 h178
          cases hb184 : (decide (s135.1 = 1))
          · have h186 := condF hb184 h181
            cases hb189 : (decide (s135.1 = 2))
            · have h191 := condF hb189 h186
              cases hb194 : (decide (s135.1 = 3))
              · have h196 := condF hb194 h191
                cases h196
              · have h195 := condT hb194 h191
                refine RJ.pin 48 (kd := .i64) (by kernel_rfl) (of_decide_eq_true hb194) ?_
                refine RJ.segD 3 (tr2 := [([], []), ([], []), ([], []), ([], []), ([], []), ([], []), ([], []), ([], []), ([3], []), ([2, 3], []), ([], []), ([], []), ([0, 1], []), ([], [])]) (L2 := [(51, .int .u8 ((bits .xor .u8 ((nth s135.2 (IntKind.wrap .i64 (x1 + s135.1)))) x2.a3_))), (50, .int .u8 x2.a3_), (49, .ptr 0 3), (48, .int .i64 3), (48, .int .i64 s135.1), (47, .int .u8 ((nth s135.2 (IntKind.wrap .i64 (x1 + s135.1))))), (46, .ptr 1 ((((IntKind.wrap .i64 (x1 + s135.1)) : Int).toNat * 1))), (45, .int .i64 (IntKind.wrap .i64 (x1 + s135.1))), (44, .int .i64 s135.1), (43, .int .i64 x1), (42, .vc 1), (41, .int .i64 (IntKind.wrap .i64 (x1 + s135.1))), (40, .int .i64 s135.1), (39, .int .i64 x1), (38, .vc 1), (0, lsv (encI .u8) 1 x0), (1, .int .i64 x1), (5, .ptr 0 0), (6, .bool false), (7, .bool y1), (8, .vc 1), (9, .int .i64 s135.1)]) (H2 := [.box [.int .u8 x2.a0_, .int .u8 x2.a1_, .int .u8 x2.a2_, .int .u8 x2.a3_], vecL (encI .u8) 1 5 s135.2]) (by kernel_rfl) ?_
                obtain ⟨hm, h197⟩ := asrt h195
                refine RJ.rel (d := (some 52)) (ef := ⟨.ptr 1 (((IntKind.wrap .i64 (x1 + s135.1)) : Int).toNat * 1), [1], []⟩) (ef' := ⟨.ptr 1 (((IntKind.wrap .i64 (x1 + s135.1)) : Int).toNat * 1), [1], []⟩) (c := inR (IntKind.wrap .i64 (x1 + s135.1)) s135.2.length) (tr2 := [([], []), ([], []), ([], []), ([], []), ([], []), ([], []), ([], []), ([], []), ([3], []), ([2, 3], []), ([], []), ([], []), ([0, 1], []), ([], []), ([3], [])]) (H2 := [.box [.int .u8 x2.a0_, .int .u8 x2.a1_, .int .u8 x2.a2_, .int .u8 x2.a3_], vecL (encI .u8) 1 5 s135.2]) (by kernel_rfl) hm (fun hc => rfl) (by kernel_rfl) ?_
                obtain ⟨hm, h198⟩ := asrt h197
                refine RJ.rel (d := none) (ef := ⟨.undef, [1], [(1, .vec (s135.2).length 1 5 (splice ((s135.2).flatMap (encI .u8)) ((((IntKind.wrap .i64 (x1 + s135.1)) : Int).toNat * 1)) ((encI .u8) ((bits .xor .u8 ((nth s135.2 (IntKind.wrap .i64 (x1 + s135.1)))) x2.a3_)))))]⟩) (ef' := ⟨.undef, [1], [(1, vecL (encI .u8) 1 5 (setAt s135.2 (IntKind.wrap .i64 (x1 + s135.1)) ((bits .xor .u8 ((nth s135.2 (IntKind.wrap .i64 (x1 + s135.1)))) x2.a3_))))]⟩) (c := Nat.ble ((((IntKind.wrap .i64 (x1 + s135.1)) : Int).toNat * 1) + ((encI .u8) ((bits .xor .u8 ((nth s135.2 (IntKind.wrap .i64 (x1 + s135.1)))) x2.a3_))).length) (s135.2.flatMap (encI .u8)).length) (tr2 := [([], []), ([], []), ([], []), ([], []), ([], []), ([], []), ([], []), ([], []), ([3], []), ([2, 3], []), ([], []), ([], []), ([0, 1], []), ([], []), ([3], []), ([2, 3], [2])]) (H2 := [.box [.int .u8 x2.a0_, .int .u8 x2.a1_, .int .u8 x2.a2_, .int .u8 x2.a3_], vecL (encI .u8) 1 5 ((setAt s135.2 (IntKind.wrap .i64 (x1 + s135.1)) ((bits .xor .u8 ((nth s135.2 (IntKind.wrap .i64 (x1 + s135.1)))) x2.a3_))))]) (by kernel_rfl) (storev_ok (encI_len .u8) hm) (fun hc => N.store (encI_len .u8) hm) (by kernel_rfl) ?_
                refine RJ.end (by kernel_rfl) ?_
                refine PJ.blockNormal ?_
                refine PJ.next ?_
                refine K.region (by kernel_rfl) ?_
                refine RJ.seg 3 [0, 1, 5, 6, 7, 8, 9] (L2 := [(0, lsv (encI .u8) 1 x0), (1, .int .i64 x1), (5, .ptr 0 0), (6, .bool false), (7, .bool y1), (8, .vc 1), (9, .int .i64 (IntKind.wrap .i64 (s135.1 + 1)))]) (H2 := [.box [.int .u8 x2.a0_, .int .u8 x2.a1_, .int .u8 x2.a2_, .int .u8 x2.a3_], vecL (encI .u8) 1 5 ((setAt s135.2 (IntKind.wrap .i64 (x1 + s135.1)) ((bits .xor .u8 ((nth s135.2 (IntKind.wrap .i64 (x1 + s135.1)))) x2.a3_))))]) (by kernel_rfl) ?_
                refine RJ.end (by kernel_rfl) ?_
                obtain rfl := Option.some.inj h198
                exact PJ.loopNext [0, 1, 5, 6, 7, 8, 9] (by kernel_rfl) (by kernel_rfl)
            · have h190 := condT hb189 h186
              refine RJ.pin 48 (kd := .i64) (by kernel_rfl) (of_decide_eq_true hb189) ?_
              refine RJ.segD 3 (tr2 := [([], []), ([], []), ([], []), ([], []), ([], []), ([], []), ([], []), ([], []), ([3], []), ([2, 3], []), ([], []), ([], []), ([0, 1], []), ([], [])]) (L2 := [(51, .int .u8 ((bits .xor .u8 ((nth s135.2 (IntKind.wrap .i64 (x1 + s135.1)))) x2.a2_))), (50, .int .u8 x2.a2_), (49, .ptr 0 2), (48, .int .i64 2), (48, .int .i64 s135.1), (47, .int .u8 ((nth s135.2 (IntKind.wrap .i64 (x1 + s135.1))))), (46, .ptr 1 ((((IntKind.wrap .i64 (x1 + s135.1)) : Int).toNat * 1))), (45, .int .i64 (IntKind.wrap .i64 (x1 + s135.1))), (44, .int .i64 s135.1), (43, .int .i64 x1), (42, .vc 1), (41, .int .i64 (IntKind.wrap .i64 (x1 + s135.1))), (40, .int .i64 s135.1), (39, .int .i64 x1), (38, .vc 1), (0, lsv (encI .u8) 1 x0), (1, .int .i64 x1), (5, .ptr 0 0), (6, .bool false), (7, .bool y1), (8, .vc 1), (9, .int .i64 s135.1)]) (H2 := [.box [.int .u8 x2.a0_, .int .u8 x2.a1_, .int .u8 x2.a2_, .int .u8 x2.a3_], vecL (encI .u8) 1 5 s135.2]) (by kernel_rfl) ?_
              obtain ⟨hm, h192⟩ := asrt h190
              refine RJ.rel (d := (some 52)) (ef := ⟨.ptr 1 (((IntKind.wrap .i64 (x1 + s135.1)) : Int).toNat * 1), [1], []⟩) (ef' := ⟨.ptr 1 (((IntKind.wrap .i64 (x1 + s135.1)) : Int).toNat * 1), [1], []⟩) (c := inR (IntKind.wrap .i64 (x1 + s135.1)) s135.2.length) (tr2 := [([], []), ([], []), ([], []), ([], []), ([], []), ([], []), ([], []), ([], []), ([3], []), ([2, 3], []), ([], []), ([], []), ([0, 1], []), ([], []), ([3], [])]) (H2 := [.box [.int .u8 x2.a0_, .int .u8 x2.a1_, .int .u8 x2.a2_, .int .u8 x2.a3_], vecL (encI .u8) 1 5 s135.2]) (by kernel_rfl) hm (fun hc => rfl) (by kernel_rfl) ?_
              obtain ⟨hm, h193⟩ := asrt h192
              refine RJ.rel (d := none) (ef := ⟨.undef, [1], [(1, .vec (s135.2).length 1 5 (splice ((s135.2).flatMap (encI .u8)) ((((IntKind.wrap .i64 (x1 + s135.1)) : Int).toNat * 1)) ((encI .u8) ((bits .xor .u8 ((nth s135.2 (IntKind.wrap .i64 (x1 + s135.1)))) x2.a2_)))))]⟩) (ef' := ⟨.undef, [1], [(1, vecL (encI .u8) 1 5 (setAt s135.2 (IntKind.wrap .i64 (x1 + s135.1)) ((bits .xor .u8 ((nth s135.2 (IntKind.wrap .i64 (x1 + s135.1)))) x2.a2_))))]⟩) (c := Nat.ble ((((IntKind.wrap .i64 (x1 + s135.1)) : Int).toNat * 1) + ((encI .u8) ((bits .xor .u8 ((nth s135.2 (IntKind.wrap .i64 (x1 + s135.1)))) x2.a2_))).length) (s135.2.flatMap (encI .u8)).length) (tr2 := [([], []), ([], []), ([], []), ([], []), ([], []), ([], []), ([], []), ([], []), ([3], []), ([2, 3], []), ([], []), ([], []), ([0, 1], []), ([], []), ([3], []), ([2, 3], [2])]) (H2 := [.box [.int .u8 x2.a0_, .int .u8 x2.a1_, .int .u8 x2.a2_, .int .u8 x2.a3_], vecL (encI .u8) 1 5 ((setAt s135.2 (IntKind.wrap .i64 (x1 + s135.1)) ((bits .xor .u8 ((nth s135.2 (IntKind.wrap .i64 (x1 + s135.1)))) x2.a2_))))]) (by kernel_rfl) (storev_ok (encI_len .u8) hm) (fun hc => N.store (encI_len .u8) hm) (by kernel_rfl) ?_
              refine RJ.end (by kernel_rfl) ?_
              refine PJ.blockNormal ?_
              refine PJ.next ?_
              refine K.region (by kernel_rfl) ?_
              refine RJ.seg 3 [0, 1, 5, 6, 7, 8, 9] (L2 := [(0, lsv (encI .u8) 1 x0), (1, .int .i64 x1), (5, .ptr 0 0), (6, .bool false), (7, .bool y1), (8, .vc 1), (9, .int .i64 (IntKind.wrap .i64 (s135.1 + 1)))]) (H2 := [.box [.int .u8 x2.a0_, .int .u8 x2.a1_, .int .u8 x2.a2_, .int .u8 x2.a3_], vecL (encI .u8) 1 5 ((setAt s135.2 (IntKind.wrap .i64 (x1 + s135.1)) ((bits .xor .u8 ((nth s135.2 (IntKind.wrap .i64 (x1 + s135.1)))) x2.a2_))))]) (by kernel_rfl) ?_
              refine RJ.end (by kernel_rfl) ?_
              obtain rfl := Option.some.inj h193
              exact PJ.loopNext [0, 1, 5, 6, 7, 8, 9] (by kernel_rfl) (by kernel_rfl)
          · have h185 := condT hb184 h181
            refine RJ.pin 48 (kd := .i64) (by kernel_rfl) (of_decide_eq_true hb184) ?_
            refine RJ.segD 3 (tr2 := [([], []), ([], []), ([], []), ([], []), ([], []), ([], []), ([], []), ([], []), ([3], []), ([2, 3], []), ([], []), ([], []), ([0, 1], []), ([], [])]) (L2 := [(51, .int .u8 ((bits .xor .u8 ((nth s135.2 (IntKind.wrap .i64 (x1 + s135.1)))) x2.a1_))), (50, .int .u8 x2.a1_), (49, .ptr 0 1), (48, .int .i64 1), (48, .int .i64 s135.1), (47, .int .u8 ((nth s135.2 (IntKind.wrap .i64 (x1 + s135.1))))), (46, .ptr 1 ((((IntKind.wrap .i64 (x1 + s135.1)) : Int).toNat * 1))), (45, .int .i64 (IntKind.wrap .i64 (x1 + s135.1))), (44, .int .i64 s135.1), (43, .int .i64 x1), (42, .vc 1), (41, .int .i64 (IntKind.wrap .i64 (x1 + s135.1))), (40, .int .i64 s135.1), (39, .int .i64 x1), (38, .vc 1), (0, lsv (encI .u8) 1 x0), (1, .int .i64 x1), (5, .ptr 0 0), (6, .bool false), (7, .bool y1), (8, .vc 1), (9, .int .i64 s135.1)]) (H2 := [.box [.int .u8 x2.a0_, .int .u8 x2.a1_, .int .u8 x2.a2_, .int .u8 x2.a3_], vecL (encI .u8) 1 5 s135.2]) (by kernel_rfl) ?_
            obtain ⟨hm, h187⟩ := asrt h185
            refine RJ.rel (d := (some 52)) (ef := ⟨.ptr 1 (((IntKind.wrap .i64 (x1 + s135.1)) : Int).toNat * 1), [1], []⟩) (ef' := ⟨.ptr 1 (((IntKind.wrap .i64 (x1 + s135.1)) : Int).toNat * 1), [1], []⟩) (c := inR (IntKind.wrap .i64 (x1 + s135.1)) s135.2.length) (tr2 := [([], []), ([], []), ([], []), ([], []), ([], []), ([], []), ([], []), ([], []), ([3], []), ([2, 3], []), ([], []), ([], []), ([0, 1], []), ([], []), ([3], [])]) (H2 := [.box [.int .u8 x2.a0_, .int .u8 x2.a1_, .int .u8 x2.a2_, .int .u8 x2.a3_], vecL (encI .u8) 1 5 s135.2]) (by kernel_rfl) hm (fun hc => rfl) (by kernel_rfl) ?_
            obtain ⟨hm, h188⟩ := asrt h187
            refine RJ.rel (d := none) (ef := ⟨.undef, [1], [(1, .vec (s135.2).length 1 5 (splice ((s135.2).flatMap (encI .u8)) ((((IntKind.wrap .i64 (x1 + s135.1)) : Int).toNat * 1)) ((encI .u8) ((bits .xor .u8 ((nth s135.2 (IntKind.wrap .i64 (x1 + s135.1)))) x2.a1_)))))]⟩) (ef' := ⟨.undef, [1], [(1, vecL (encI .u8) 1 5 (setAt s135.2 (IntKind.wrap .i64 (x1 + s135.1)) ((bits .xor .u8 ((nth s135.2 (IntKind.wrap .i64 (x1 + s135.1)))) x2.a1_))))]⟩) (c := Nat.ble ((((IntKind.wrap .i64 (x1 + s135.1)) : Int).toNat * 1) + ((encI .u8) ((bits .xor .u8 ((nth s135.2 (IntKind.wrap .i64 (x1 + s135.1)))) x2.a1_))).length) (s135.2.flatMap (encI .u8)).length) (tr2 := [([], []), ([], []), ([], []), ([], []), ([], []), ([], []), ([], []), ([], []), ([3], []), ([2, 3], []), ([], []), ([], []), ([0, 1], []), ([], []), ([3], []), ([2, 3], [2])]) (H2 := [.box [.int .u8 x2.a0_, .int .u8 x2.a1_, .int .u8 x2.a2_, .int .u8 x2.a3_], vecL (encI .u8) 1 5 ((setAt s135.2 (IntKind.wrap .i64 (x1 + s135.1)) ((bits .xor .u8 ((nth s135.2 (IntKind.wrap .i64 (x1 + s135.1)))) x2.a1_))))]) (by kernel_rfl) (storev_ok (encI_len .u8) hm) (fun hc => N.store (encI_len .u8) hm) (by kernel_rfl) ?_
            refine RJ.end (by kernel_rfl) ?_
            refine PJ.blockNormal ?_
            refine PJ.next ?_
            refine K.region (by kernel_rfl) ?_
            refine RJ.seg 3 [0, 1, 5, 6, 7, 8, 9] (L2 := [(0, lsv (encI .u8) 1 x0), (1, .int .i64 x1), (5, .ptr 0 0), (6, .bool false), (7, .bool y1), (8, .vc 1), (9, .int .i64 (IntKind.wrap .i64 (s135.1 + 1)))]) (H2 := [.box [.int .u8 x2.a0_, .int .u8 x2.a1_, .int .u8 x2.a2_, .int .u8 x2.a3_], vecL (encI .u8) 1 5 ((setAt s135.2 (IntKind.wrap .i64 (x1 + s135.1)) ((bits .xor .u8 ((nth s135.2 (IntKind.wrap .i64 (x1 + s135.1)))) x2.a1_))))]) (by kernel_rfl) ?_
            refine RJ.end (by kernel_rfl) ?_
            obtain rfl := Option.some.inj h188
            exact PJ.loopNext [0, 1, 5, 6, 7, 8, 9] (by kernel_rfl) (by kernel_rfl)
        · have h180 := condT hb179 h178
          refine RJ.pin 48 (kd := .i64) (by kernel_rfl) (of_decide_eq_true hb179) ?_
          refine RJ.segD 3 (tr2 := [([], []), ([], []), ([], []), ([], []), ([], []), ([], []), ([], []), ([], []), ([3], []), ([2, 3], []), ([], []), ([], []), ([0, 1], []), ([], [])]) (L2 := [(51, .int .u8 ((bits .xor .u8 ((nth s135.2 (IntKind.wrap .i64 (x1 + s135.1)))) x2.a0_))), (50, .int .u8 x2.a0_), (49, .ptr 0 0), (48, .int .i64 0), (48, .int .i64 s135.1), (47, .int .u8 ((nth s135.2 (IntKind.wrap .i64 (x1 + s135.1))))), (46, .ptr 1 ((((IntKind.wrap .i64 (x1 + s135.1)) : Int).toNat * 1))), (45, .int .i64 (IntKind.wrap .i64 (x1 + s135.1))), (44, .int .i64 s135.1), (43, .int .i64 x1), (42, .vc 1), (41, .int .i64 (IntKind.wrap .i64 (x1 + s135.1))), (40, .int .i64 s135.1), (39, .int .i64 x1), (38, .vc 1), (0, lsv (encI .u8) 1 x0), (1, .int .i64 x1), (5, .ptr 0 0), (6, .bool false), (7, .bool y1), (8, .vc 1), (9, .int .i64 s135.1)]) (H2 := [.box [.int .u8 x2.a0_, .int .u8 x2.a1_, .int .u8 x2.a2_, .int .u8 x2.a3_], vecL (encI .u8) 1 5 s135.2]) (by kernel_rfl) ?_
          obtain ⟨hm, h182⟩ := asrt h180
          refine RJ.rel (d := (some 52)) (ef := ⟨.ptr 1 (((IntKind.wrap .i64 (x1 + s135.1)) : Int).toNat * 1), [1], []⟩) (ef' := ⟨.ptr 1 (((IntKind.wrap .i64 (x1 + s135.1)) : Int).toNat * 1), [1], []⟩) (c := inR (IntKind.wrap .i64 (x1 + s135.1)) s135.2.length) (tr2 := [([], []), ([], []), ([], []), ([], []), ([], []), ([], []), ([], []), ([], []), ([3], []), ([2, 3], []), ([], []), ([], []), ([0, 1], []), ([], []), ([3], [])]) (H2 := [.box [.int .u8 x2.a0_, .int .u8 x2.a1_, .int .u8 x2.a2_, .int .u8 x2.a3_], vecL (encI .u8) 1 5 s135.2]) (by kernel_rfl) hm (fun hc => rfl) (by kernel_rfl) ?_
          obtain ⟨hm, h183⟩ := asrt h182
          refine RJ.rel (d := none) (ef := ⟨.undef, [1], [(1, .vec (s135.2).length 1 5 (splice ((s135.2).flatMap (encI .u8)) ((((IntKind.wrap .i64 (x1 + s135.1)) : Int).toNat * 1)) ((encI .u8) ((bits .xor .u8 ((nth s135.2 (IntKind.wrap .i64 (x1 + s135.1)))) x2.a0_)))))]⟩) (ef' := ⟨.undef, [1], [(1, vecL (encI .u8) 1 5 (setAt s135.2 (IntKind.wrap .i64 (x1 + s135.1)) ((bits .xor .u8 ((nth s135.2 (IntKind.wrap .i64 (x1 + s135.1)))) x2.a0_))))]⟩) (c := Nat.ble ((((IntKind.wrap .i64 (x1 + s135.1)) : Int).toNat * 1) + ((encI .u8) ((bits .xor .u8 ((nth s135.2 (IntKind.wrap .i64 (x1 + s135.1)))) x2.a0_))).length) (s135.2.flatMap (encI .u8)).length) (tr2 := [([], []), ([], []), ([], []), ([], []), ([], []), ([], []), ([], []), ([], []), ([3], []), ([2, 3], []), ([], []), ([], []), ([0, 1], []), ([], []), ([3], []), ([2, 3], [2])]) (H2 := [.box [.int .u8 x2.a0_, .int .u8 x2.a1_, .int .u8 x2.a2_, .int .u8 x2.a3_], vecL (encI .u8) 1 5 ((setAt s135.2 (IntKind.wrap .i64 (x1 + s135.1)) ((bits .xor .u8 ((nth s135.2 (IntKind.wrap .i64 (x1 + s135.1)))) x2.a0_))))]) (by kernel_rfl) (storev_ok (encI_len .u8) hm) (fun hc => N.store (encI_len .u8) hm) (by kernel_rfl) ?_
          refine RJ.end (by kernel_rfl) ?_
          refine PJ.blockNormal ?_
          refine PJ.next ?_
          refine K.region (by kernel_rfl) ?_
          refine RJ.seg 3 [0, 1, 5, 6, 7, 8, 9] (L2 := [(0, lsv (encI .u8) 1 x0), (1, .int .i64 x1), (5, .ptr 0 0), (6, .bool false), (7, .bool y1), (8, .vc 1), (9, .int .i64 (IntKind.wrap .i64 (s135.1 + 1)))]) (H2 := [.box [.int .u8 x2.a0_, .int .u8 x2.a1_, .int .u8 x2.a2_, .int .u8 x2.a3_], vecL (encI .u8) 1 5 ((setAt s135.2 (IntKind.wrap .i64 (x1 + s135.1)) ((bits .xor .u8 ((nth s135.2 (IntKind.wrap .i64 (x1 + s135.1)))) x2.a0_))))]) (by kernel_rfl) ?_
          refine RJ.end (by kernel_rfl) ?_
          obtain rfl := Option.some.inj h183
          exact PJ.loopNext [0, 1, 5, 6, 7, 8, 9] (by kernel_rfl) (by kernel_rfl)
      · have h176 := condF hb174 hs172
        refine K.condF (by kernel_rfl) ?_
        refine K.exit 0 (by kernel_rfl) ?_
        refine PJ.passExit ?_
        obtain rfl := Option.some.inj h176
        refine PJ.loopOut (fun e => nomatch e) (fun he200 => ?_)
        have h199 := congrArg some he200
        refine PJ.blockOut ?_
        obtain rfl := Option.some.inj h199
        refine PJ.wk (Wk.sel (L2 := [(0, lsv (encI .u8) 1 x0), (6, .bool false), (7, .bool y1), (8, .vc 0)]) (H2 := [vecL (encI .u8) 1 5 s135.2]) 0 (by rw [hFH]; rfl) hFD [1] (by kernel_rfl) (by kernel_rfl) (by decide) (by kernel_rfl) (by kernel_rfl) (by kernel_rfl) (by kernel_rfl)) ?_
        exact PJ.cutN [0, 6, 7, 8] (by kernel_rfl) (by kernel_rfl)
    · obtain ⟨s219, hy221, h223⟩ := bindS h134
      refine K.cutN (by kernel_rfl) (fun (s219 : Bool) => ([(6, .bool s219)], [])) s219 ?_ ?_
      · refine K.region (by kernel_rfl) ?_
        refine RJ.seg 2 [0, 6, 8, 54] (L2 := [(0, lsv (encI .u8) 1 x0), (6, .bool false), (8, .vc 0), (54, .bool y1)]) (H2 := [vecL (encI .u8) 1 5 s130]) (by kernel_rfl) ?_
        refine RJ.caseB 54 (b := y1) (by kernel_rfl) (fun hb224 => ?_) (fun hb224 => ?_)
        · have h225 := condT hb224 hy221
          refine RJ.seg 1 [0, 6, 8, 54, 55] (L2 := [(0, lsv (encI .u8) 1 x0), (6, .bool false), (8, .vc 0), (54, .bool true), (55, .vc 0)]) (H2 := [vecL (encI .u8) 1 5 s130]) (by kernel_rfl) ?_
          obtain ⟨y227, hy228, h229⟩ := bindS h225
          refine RJ.callL (d := (some 56)) (f := 17) (args := [.vc 0]) (args0 := [.vc 0]) (args1 := [lsv (encI .u8) 1 s130]) (H0 := [vecL (encI .u8) 1 5 s130]) (v := .int .u32 y227) (tr2 := []) [0] (by kernel_rfl) (by kernel_rfl) (by kernel_rfl) (by kernel_rfl) (by decide) (by kernel_rfl) (by kernel_rfl) (by kernel_rfl) (by kernel_rfl) (.cons (Le.refl _) .nil) (crc_Of_ok hy228) (by kernel_rfl) (by kernel_rfl) ?_
          refine RJ.seg 1 [0, 6, 8, 54, 56, 57] (L2 := [(0, lsv (encI .u8) 1 x0), (6, .bool false), (8, .vc 0), (54, .bool true), (56, .int .u32 y227), (57, lsv (encI .u8) 1 x0)]) (H2 := [vecL (encI .u8) 1 5 s130]) (by kernel_rfl) ?_
          obtain ⟨y230, hy231, h232⟩ := bindS h229
          refine RJ.call0 (d := (some 58)) (f := 17) (args := [lsv (encI .u8) 1 x0]) (v := .int .u32 y230) (tr2 := []) (by kernel_rfl) (by kernel_rfl) (.cons (Le.refl _) .nil) (crc_Of_ok hy231) (by kernel_rfl) ?_
          refine RJ.seg 3 [0, 6, 8, 61] (L2 := [(0, lsv (encI .u8) 1 x0), (6, .bool false), (8, .vc 0), (61, .bool (decide (¬ y227 = y230)))]) (H2 := [vecL (encI .u8) 1 5 s130]) (by kernel_rfl) ?_
          refine RJ.caseB 61 (b := (decide (¬ y227 = y230))) (by kernel_rfl) (fun hb233 => ?_) (fun hb233 => ?_)
          · have h234 := condT hb233 h232
            refine RJ.seg 1 [0, 6, 61, 62] (L2 := [(0, lsv (encI .u8) 1 x0), (6, .bool false), (61, .bool true), (62, .vc 0)]) (H2 := [vecL (encI .u8) 1 5 s130]) (by kernel_rfl) ?_
            obtain ⟨y236, hy237, h238⟩ := bindS h234
            refine RJ.callL (d := (some 63)) (f := 15) (args := [.int .u32 7, .vc 0]) (args0 := [.int .u32 7, .vc 0]) (args1 := [.int .u32 7, lsv (encI .u8) 1 s130]) (H0 := [vecL (encI .u8) 1 5 s130]) (v := .int .u32 y236) (tr2 := []) [0] (by kernel_rfl) (by kernel_rfl) (by kernel_rfl) (by kernel_rfl) (by decide) (by kernel_rfl) (by kernel_rfl) (by kernel_rfl) (by kernel_rfl) (.cons (Le.refl _) (.cons (Le.refl _) .nil)) (crc_On_ok hy237) (by kernel_rfl) (by kernel_rfl) ?_
            refine RJ.seg 1 [6, 61, 63, 64] (L2 := [(6, .bool false), (61, .bool true), (63, .int .u32 y236), (64, lsv (encI .u8) 1 x0)]) (H2 := [vecL (encI .u8) 1 5 s130]) (by kernel_rfl) ?_
            obtain ⟨y239, hy240, h241⟩ := bindS h238
            refine RJ.call0 (d := (some 65)) (f := 15) (args := [.int .u32 7, lsv (encI .u8) 1 x0]) (v := .int .u32 y239) (tr2 := []) (by kernel_rfl) (by kernel_rfl) (.cons (Le.refl _) (.cons (Le.refl _) .nil)) (crc_On_ok hy240) (by kernel_rfl) ?_
            refine RJ.seg 3 [6] (L2 := [(6, .bool (decide (¬ y236 = y239)))]) (H2 := [vecL (encI .u8) 1 5 s130]) (by kernel_rfl) ?_
            refine RJ.end (by kernel_rfl) ?_
            obtain rfl := Option.some.inj h241
            refine PJ.wk (Wk.sel (L2 := [(6, .bool (decide (¬ y236 = y239)))]) (H2 := []) 0 (by rw [hFH]; rfl) hFD [] (by kernel_rfl) (by kernel_rfl) (by decide) (by kernel_rfl) (by kernel_rfl) (by kernel_rfl) (by kernel_rfl)) ?_
            exact PJ.cutN [6] (by kernel_rfl) (by kernel_rfl)
          · have h235 := condF hb233 h232
            refine RJ.seg 7 [6] (L2 := [(6, .bool false)]) (H2 := [vecL (encI .u8) 1 5 s130]) (by kernel_rfl) ?_
            refine RJ.end (by kernel_rfl) ?_
            obtain rfl := Option.some.inj h235
            refine PJ.wk (Wk.sel (L2 := [(6, .bool false)]) (H2 := []) 0 (by rw [hFH]; rfl) hFD [] (by kernel_rfl) (by kernel_rfl) (by decide) (by kernel_rfl) (by kernel_rfl) (by kernel_rfl) (by kernel_rfl)) ?_
            exact PJ.cutN [6] (by kernel_rfl) (by kernel_rfl)
        · have h226 := condF hb224 hy221
          refine RJ.seg 14 [6] (L2 := [(6, .bool false)]) (H2 := [vecL (encI .u8) 1 5 s130]) (by kernel_rfl) ?_
          refine RJ.end (by kernel_rfl) ?_
          obtain rfl := Option.some.inj h226
          refine PJ.wk (Wk.sel (L2 := [(6, .bool false)]) (H2 := []) 0 (by rw [hFH]; rfl) hFD [] (by kernel_rfl) (by kernel_rfl) (by decide) (by kernel_rfl) (by kernel_rfl) (by kernel_rfl) (by kernel_rfl)) ?_
          exact PJ.cutN [6] (by kernel_rfl) (by kernel_rfl)
      · refine K.ret (by kernel_rfl) ?_
        obtain rfl := Option.some.inj h223
        exact K.ret0 (.inr rfl) hFn hFH hFD (by kernel_rfl) (by kernel_rfl) (by kernel_rfl)

end Go.Proofs.Ytlabcjijjeeobaa
