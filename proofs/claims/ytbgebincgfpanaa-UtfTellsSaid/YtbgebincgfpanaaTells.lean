/-
  The statement UtfTells is proved: which numbers are runes, how many bytes one has and which rows are the same is as the law asks, of every number and every two rows. No conditions.
-/
import Derived.Test.YtbgebincgfpanaaUtfA
namespace Go.Proofs.Ytbgebincgfpanaa
open Go Go.Sx Go.RowKit Go.ChangeShapes Go.WideShapes Go.ChangeAt
set_option linter.unusedSimpArgs false
set_option linter.unusedVariables false
set_option maxRecDepth 100000 in
set_option maxHeartbeats 1000000 in
theorem Tells_spec (r : Int) (h0 : -2147483648 ≤ r) (h1 : r ≤ 2147483647) (a b : List Int) (ha : a.length < 1152921504606846976) (hb : b.length < 1152921504606846976) (H : Heap) : SC Try.prog 3 [ri r, .lst none 1 (a.map ri), .lst none 1 (b.map ri)] H (.bool true) H := by
  simp only [ri]
  have ha2 : a.length < 4611686018427387904 := by omega
  refine SC_of_code mixed Try.func3 rfl (by kernel_rfl) (by kernel_rfl) (by kernel_rfl) (by simp [Try.f3]) (by rfl) ?_
  rw [Try.results3]
  repeat' (first | refine GuardW.splitN (fun _ => ?_) (fun _ => ?_) | refine GuardW.splitD (fun _ => ?_) (fun _ => ?_) | refine GuardW.split (fun _ => ?_) (fun _ => ?_) | refine CondW.splitN (fun _ => ?_) (fun _ => ?_) | refine CondW.splitD (fun _ => ?_) (fun _ => ?_) | refine CondW.split (fun _ => ?_) (fun _ => ?_) | refine GuardD.splitN (fun _ => ?_) (fun _ => ?_) | refine GuardD.splitD (fun _ => ?_) (fun _ => ?_) | refine GuardD.split (fun _ => ?_) (fun _ => ?_) | refine DrawW.of (by kernel_rfl) ?_ | refine CallW.of (shown_spec _) ?_ | refine CallW.ofG (shown_spec _) ?_ | refine CallD.of (shown_spec _) ?_ | refine CallW.of (Is_spec _ _) ?_ | refine CallW.ofG (Is_spec _ _) ?_ | refine CallD.of (Is_spec _ _) ?_ | refine CallW.of (rIs_spec _ (by assumption) (by assumption) _) ?_ | refine CallW.ofG (rIs_spec _ (by assumption) (by assumption) _) ?_ | refine CallD.of (rIs_spec _ (by assumption) (by assumption) _) ?_ | refine CallW.of (Size_spec _ _) ?_ | refine CallW.ofG (Size_spec _ _) ?_ | refine CallD.of (Size_spec _ _) ?_ | refine CallW.of (rSize_spec _ (by assumption) (by assumption) _) ?_ | refine CallW.ofG (rSize_spec _ (by assumption) (by assumption) _) ?_ | refine CallD.of (rSize_spec _ (by assumption) (by assumption) _) ?_ | refine CallW.of (Same_spec _ _ (by assumption) _) ?_ | refine CallW.ofG (Same_spec _ _ (by assumption) _) ?_ | refine CallD.of (Same_spec _ _ (by assumption) _) ?_ | refine CallW.of (rSame_spec _ _ (by assumption) _) ?_ | refine CallW.ofG (rSame_spec _ _ (by assumption) _) ?_ | refine CallD.of (rSame_spec _ _ (by assumption) _) ?_ | (simp only [*, bt3, bt4, bt5, bt21, bt29, ce5, ce21, eo5, eo21, Try.underlying3, Try.underlying4, Try.underlying5, Try.underlying21, Try.underlying22, Try.underlying28, Try.underlying29, List.length_map, Nat.zero_lt_one, List.map_append, Int.natCast_inj, Int.ofNat_lt, idx_map, cellsVal, wrap_i64, wrap_i32, wrap_u8, IntKind.bits, Nat.min_def, Int.fdiv_eq_ediv_of_nonneg, u8_wrap, wrap_nat, zeroI, zeroB, fillS, splice, List.replicate, List.flatten, List.length_cons, List.length_nil, List.take, List.drop, List.append, SV.one, srcTy, List.flatten_cons, List.flatten_nil, Int.sub_self, Int.mul_zero, List.length_append, List.take_zero, Nat.mul_one, Nat.one_mul, Nat.zero_mul, Nat.zero_add, Nat.reduceAdd, Nat.reduceLeDiff, List.drop_nil, List.drop_succ_cons, List.take_succ_cons, List.drop_zero, cw_skip, cw_ret, cw_exit, cw_seq, cw_block, cw_region, cw_drawn, cw_cond, th_normal, th_ret, th_exit, ib_normal, ib_ret, ib_exit, rs_normal, rs_ret, ow_nil, ow_plain, ow_guard, stepW, gw_true, gw_false, cd_true, cd_false, condOf, not_decide, gd_true, gd_false, td_end, td_plain, td_guard, stepD, gOf, isCall, callOf, calledOf, argsOf,
 opEval, opEvalD, tOp, fsOf, eff, shE_at, wk_some, wk_none, appendT, pureEval, callE, lenE, moveE, takenIn, takes, extractE, appendE, srcCells, storeE, SV.cells?, SV.one, SV.share1, SV.share, putE, upd_at, ve_tmp, ve_func, ve_bool, ve_int, ve_str, ve_nil, binSV, unSV, convSV, cellsVal, boundE,
 Option.map, Option.bind, Option.getD, Nat.reduceEqDiff, Int.reduceSub, Int.reduceMul, Int.reduceAdd, Int.reduceNeg, Int.reduceLT, Int.reduceLE, Int.reduceGT, Int.reduceGE, Int.reduceEq, Int.reduceNe, Int.reducePow, Int.reduceToNat, Int.reduceDiv, Int.reduceMod, Int.reduceTDiv, Int.reduceTMod, Int.reduceFDiv, Nat.reduceAdd, Nat.reduceMul, Nat.reduceSub, Nat.reduceDiv, Nat.reduceMod, Nat.reduceLeDiff, Nat.reducePow, Int.cast_ofNat_Int, not_true_eq_false, not_false_eq_true, if_true, if_false, ↓reduceIte, initE, Bool.false_eq_true, List.getElem?_toArray, List.getElem?_cons_succ, List.getElem?_cons_zero, List.getElem?_nil, decide_true, decide_false, beq_self_eq_true,
 List.mapM_cons, List.mapM_nil, List.map_cons, List.map_nil, Option.bind_eq_bind, Option.pure_def, bind_pure_comp, Option.map_eq_map, List.any_cons, List.any_nil, retE, resE1, List.append_nil, List.nil_append, List.cons_append, reduceCtorEq, and_true, true_and, and_self, Bool.or_false, Bool.false_or, Bool.false_and, Bool.and_false, Bool.true_or, Bool.or_true, Bool.or_self, Bool.and_self, Bool.and_true, Bool.true_and, Option.some.injEq, List.set_cons_zero, List.set_cons_succ, Bool.not_true, Bool.not_false, drops_same, SV.bool.injEq, SV.int.injEq, SV.tup.injEq, List.cons.injEq]) | (simp (disch := (first | omega | (simp only [List.length_append, List.length_map, List.length_cons, List.length_nil]; omega))) only [room_true, wrap_i64, wrap_i32, idx_map, idx_int, slice_map]))
set_option maxRecDepth 100000 in
theorem UtfTells_lifted (os : Os) (started : os.Started) (H : Type) (enc : TypeId × Value → H) :
    ReturnsInHanded {} Try.checked os 3 .any (Rows.utfTellsSpec.pre6 enc Try.prog Try.f3 Rows.utfTellsRow.domain false) (Rows.utfTellsSpec.post enc Try.prog Try.f3 false true false false) := by
  refine returnsInHanded_of_change_sized (C := Try.checked) Try.own started (by kernel_rfl) Try.func3
    (ChangeSpec.witness6 (enc := enc) (C := Try.checked) false ⟨#[], #[.int .i32 0, .slice none 0 0, .slice none 0 0], []⟩ 8 (by kernel_rfl) (by kernel_rfl) (by kernel_rfl) (by kernel_rfl)) ?_
  intro W base args ds gs before hval0 hW _ hsz0 _
  have hsz : (DataW.weightsEach Try.prog (Try.f3.params.toList ++ Rows.utfTellsSpec.plain.varTypes Try.prog) (ds ++ gs)).all (· ≤ reachBytes) = true := hsz0
  clear hsz0
  refine law_post (P := Try.prog) (n := 3) (tb := 4) Try.laidOut Try.underlying4 rfl rfl (by kernel_rfl) (fun h => ?_) hval0 hW ?_
  · rw [Try.params3] at h
    obtain ⟨d1, d2, d3, rfl⟩ := len3 h
    exact ⟨rfl, rfl, rfl⟩
  · intro ss hg hl1 hl2 hs
    subst hg
    rw [Try.params3] at hl1 hl2 hs hsz
    obtain ⟨d1, d2, d3, rfl⟩ := len3 hl1
    obtain ⟨s1, s2, s3, rfl⟩ := len3 hl2
    obtain ⟨r, rfl, wr⟩ := shows_int (n := 2) (k := .i32) Try.underlying21 (hs 0 21 _ _ rfl rfl rfl)
    obtain ⟨pr, qr⟩ := wf_i32 wr
    obtain ⟨a, rfl, wa, la⟩ := shows_ints (n := 1) (k := .i32) Try.underlying22 Try.underlying21 ce21 (hs 1 22 _ _ rfl rfl rfl)
    have na := reach_len hsz (j := 1) rfl rfl Try.underlying22 (by rw [by21]; decide) la
    obtain ⟨b, rfl, wb, lb⟩ := shows_ints (n := 1) (k := .i32) Try.underlying22 Try.underlying21 ce21 (hs 2 22 _ _ rfl rfl rfl)
    have nb := reach_len hsz (j := 2) rfl rfl Try.underlying22 (by rw [by21]; decide) lb
    exact Tells_spec r pr qr a b (by omega) (by omega) []

theorem UtfTells_holds : Rows.UtfTellsSaid :=
  OpenClaim.holds_of_wide 3 Try.f3 rfl rfl rfl rfl rfl rfl rfl ⟨rfl, rfl, rfl, rfl, rfl⟩ rfl rfl rfl rfl rfl (by kernel_rfl) Try.func3 (by kernel_rfl)
    (of_decide_eq_true (by kernel_rfl)) (by unfold Func.isWrapper; first | (rw [if_pos (by decide +kernel)]; kernel_rfl) | (rw [if_neg (by decide +kernel)]; exact ⟨rfl, rfl⟩))
    (fun os started H enc _ => UtfTells_lifted os started H enc)

end Go.Proofs.Ytbgebincgfpanaa
