/-
  The statement UtfJoins is proved: the bytes of two rows, one behind the other, are the bytes of both, and where bytes go wrong it doesn't matter what is ahead of them. No conditions.
-/
import Derived.Test.YtbgebincgfpanaaUtfB
namespace Go.Proofs.Ytbgebincgfpanaa
open Go Go.Sx Go.RowKit Go.ChangeShapes Go.WideShapes Go.ChangeAt
set_option linter.unusedSimpArgs false
set_option linter.unusedVariables false

theorem one_rb {r : Int} (h : isRune r = true) (rest : List Int) : decOne (rb r ++ rest) = some r := by
  have hle := rune_le h
  rcases rsz_cases h with ⟨c0, c1, e⟩ | ⟨c0, c1, e⟩ | ⟨c0, c1, e⟩ | ⟨c0, c1, e⟩
  · have hp : promK r = 1 := by unfold promK; rw [if_pos (by omega)]
    have hmk : markN (promK r) = 0 := by rw [hp]; rfl
    simp only [rb, e, if_pos, List.cons_append, List.nil_append, decOne]
    rw [if_neg (by omega), hmk, hp]
    simp [tailsL, e]
  · have hp : promK (192 + r / 64) = 2 := by unfold promK; rw [if_neg (by omega), if_pos (by omega)]
    have hmk : markN (promK (192 + r / 64)) = 192 := by rw [hp]; rfl
    have hrb : rb r = [192 + r / 64, 128 + r % 64] := by simp [rb, e]
    rw [hrb]
    simp only [List.cons_append, List.nil_append, decOne]
    rw [if_neg (by rw [hp]; simp), hmk, hp]
    simp only [Nat.reduceSub, List.take_succ_cons, List.take_zero, tailsL]
    rw [if_pos (by omega), show (192 + r / 64 - 192) * 64 + (128 + r % 64 - 128) = r by omega]
    simp [e]
  · have hp : promK (224 + r / 4096) = 3 := by unfold promK; rw [if_neg (by omega), if_neg (by omega), if_pos (by omega)]
    have hmk : markN (promK (224 + r / 4096)) = 224 := by rw [hp]; rfl
    have hrb : rb r = [224 + r / 4096, 128 + r / 64 % 64, 128 + r % 64] := by simp [rb, e]
    rw [hrb]
    simp only [List.cons_append, List.nil_append, decOne]
    rw [if_neg (by rw [hp]; simp), hmk, hp]
    simp only [Nat.reduceSub, List.take_succ_cons, List.take_zero, tailsL]
    rw [if_pos (by omega), if_pos (by omega), show ((224 + r / 4096 - 224) * 64 + (128 + r / 64 % 64 - 128)) * 64 + (128 + r % 64 - 128) = r by omega]
    simp [e]
  · have hp : promK (240 + r / 262144) = 4 := by unfold promK; rw [if_neg (by omega), if_neg (by omega), if_neg (by omega), if_pos (by omega)]
    have hmk : markN (promK (240 + r / 262144)) = 240 := by rw [hp]; rfl
    have hrb : rb r = [240 + r / 262144, 128 + r / 4096 % 64, 128 + r / 64 % 64, 128 + r % 64] := by simp [rb, e]
    rw [hrb]
    simp only [List.cons_append, List.nil_append, decOne]
    rw [if_neg (by rw [hp]; simp), hmk, hp]
    simp only [Nat.reduceSub, List.take_succ_cons, List.take_zero, tailsL]
    rw [if_pos (by omega), if_pos (by omega), if_pos (by omega), show (((240 + r / 262144 - 240) * 64 + (128 + r / 4096 % 64 - 128)) * 64 + (128 + r / 64 % 64 - 128)) * 64 + (128 + r % 64 - 128) = r by omega]
    simp [e]

theorem rb_one {b : List Int} {r : Int} (hb : ∀ x ∈ b, 0 ≤ x ∧ x < 256) (h : decOne b = some r) : b = rb r ++ b.drop (rsz r) := by
  cases b with
  | nil => cases h
  | cons c rest =>
    have hc := hb c (List.mem_cons_self ..)
    simp only [decOne] at h
    split at h
    · cases h
    · rename_i hq
      rcases prom_cases hc.1 hc.2 with ⟨c1, hp, hmk⟩ | ⟨c1, c2, hp⟩ | ⟨c1, c2, hp, hmk⟩ | ⟨c1, c2, hp, hmk⟩ | ⟨c1, c2, hp, hmk⟩ | ⟨c1, hp⟩
      · rw [hmk, hp] at h
        simp only [Nat.reduceSub, List.take_zero, tailsL] at h
        split at h
        · rename_i e; cases h; simp only [Int.sub_zero] at e ⊢; simp [rb, e]
        · cases h
      · omega
      · rw [hmk, hp] at h
        cases rest with
        | nil => simp [hp] at hq
        | cons d rest =>
          simp only [Nat.reduceSub, List.take_succ_cons, List.take_zero, tailsL] at h
          split at h
          · rename_i r' hr'
            split at hr'
            · cases hr'
              split at h
              · rename_i hd e
                cases h
                have hrb : rb ((c - 192) * 64 + (d - 128)) = [c, d] := by
                  unfold rb; rw [e]; simp; omega
                rw [hrb, e]; simp
              · cases h
            · cases hr'
          · cases h
      · rw [hmk, hp] at h
        match rest, hq with
        | [], hq => simp [hp] at hq
        | [_], hq => simp [hp] at hq
        | d :: d2 :: rest, hq =>
          simp only [Nat.reduceSub, List.take_succ_cons, List.take_zero, tailsL] at h
          split at h
          · rename_i r' hr'
            split at hr'
            · split at hr'
              · cases hr'
                split at h
                · rename_i hd hd2 e
                  cases h
                  have hrb : rb (((c - 224) * 64 + (d - 128)) * 64 + (d2 - 128)) = [c, d, d2] := by
                    unfold rb; rw [e]; simp; omega
                  rw [hrb, e]; simp
                · cases h
              · cases hr'
            · cases hr'
          · cases h
      · rw [hmk, hp] at h
        match rest, hq with
        | [], hq => simp [hp] at hq
        | [_], hq => simp [hp] at hq
        | [_, _], hq => simp [hp] at hq
        | d :: d2 :: d3 :: rest, hq =>
          simp only [Nat.reduceSub, List.take_succ_cons, List.take_zero, tailsL] at h
          split at h
          · rename_i r' hr'
            split at hr'
            · split at hr'
              · split at hr'
                · cases hr'
                  split at h
                  · rename_i hd hd2 hd3 e
                    cases h
                    have hrb : rb ((((c - 240) * 64 + (d - 128)) * 64 + (d2 - 128)) * 64 + (d3 - 128)) = [c, d, d2, d3] := by
                      unfold rb; rw [e]; simp; omega
                    rw [hrb, e]; simp
                  · cases h
                · cases hr'
              · cases hr'
            · cases hr'
          · cases h
      · omega

theorem go_enc : ∀ (n : Nat) (b : List Int) (k : Nat) (acc l : List Int), (∀ x ∈ b, 0 ≤ x ∧ x < 256) → decGo n b k acc = .inl l → ∃ l', l = acc ++ l' ∧ enc l' = some b := by
  intro n
  induction n with
  | zero => intro b k acc l _ h; cases h
  | succ n ih =>
    intro b k acc l hb h
    simp only [decGo] at h
    split at h
    · rename_i he
      cases h
      have : b = [] := by simpa using he
      exact ⟨[], by simp, by rw [this]; rfl⟩
    · split at h
      · cases h
      · rename_i r hd
        obtain ⟨l', e1, e2⟩ := ih _ _ _ _ (fun x hx => hb x (List.mem_of_mem_drop hx)) h
        obtain ⟨d1, d2, d3⟩ := decOne_len hd
        refine ⟨r :: l', by rw [e1]; simp, ?_⟩
        simp only [enc]
        rw [if_pos d3, e2]
        simp only [Option.map_some]
        rw [← rb_one hb hd]

theorem enc_go : ∀ (l bs : List Int) (n k : Nat) (acc : List Int), enc l = some bs → bs.length < n → decGo n bs k acc = .inl (acc ++ l) := by
  intro l
  induction l with
  | nil => intro bs n k acc h hn; simp [enc] at h; subst h; rw [go_end (by simpa using hn)]; simp
  | cons r l ih =>
    intro bs n k acc h hn
    simp only [enc] at h
    split at h
    · rename_i hr
      cases he : enc l with
      | none => rw [he] at h; cases h
      | some x =>
        rw [he] at h
        cases h
        obtain ⟨m, rfl⟩ : ∃ m, n = m + 1 := ⟨n - 1, by simp at hn; omega⟩
        have h1 := one_rb hr x
        have hp := rsz_pos hr
        have hne : (rb r ++ x).isEmpty = false := by
          cases hx : rb r ++ x with
          | nil => have := congrArg List.length hx; simp [rb_len] at this; omega
          | cons _ _ => rfl
        simp only [decGo, hne, Bool.false_eq_true, if_false, h1]
        rw [← rb_len, List.drop_left]
        rw [ih x m _ _ he (by simp [rb_len] at hn; omega)]
        simp
    · cases h

theorem go_where : ∀ (n : Nat) (b : List Int) (k : Nat) (acc : List Int) (j : Nat), b.length < n → decGo n b k acc = .inr j → k ≤ j ∧ j < k + b.length := by
  intro n
  induction n with
  | zero => intro b k acc j hn _; omega
  | succ n ih =>
    intro b k acc j hn h
    simp only [decGo] at h
    split at h
    · cases h
    · rename_i hne
      have hbl : b.length ≠ 0 := fun e => hne (by simpa using List.length_eq_zero_iff.1 e)
      split at h
      · cases h; omega
      · rename_i r hd
        obtain ⟨d1, d2, d3⟩ := decOne_len hd
        have := ih _ _ _ _ (by simp; omega) h
        simp at this
        omega

theorem enc_bytes {l bs : List Int} (h : enc l = some bs) : ∀ x ∈ bs, 0 ≤ x ∧ x < 256 := by
  induction l generalizing bs with
  | nil => simp [enc] at h; subst h; intro x hx; cases hx
  | cons r l ih =>
    simp only [enc] at h
    split at h
    · rename_i hr
      cases he : enc l with
      | none => rw [he] at h; cases h
      | some y =>
        rw [he] at h
        cases h
        intro x hx
        rcases List.mem_append.1 hx with h1 | h1
        · have hle := rune_le hr
          unfold rb at h1
          rcases rsz_cases hr with ⟨c0, c1, e⟩ | ⟨c0, c1, e⟩ | ⟨c0, c1, e⟩ | ⟨c0, c1, e⟩ <;> rw [e] at h1 <;> simp at h1 <;> omega
        · exact ih he x h1
    · cases h
theorem enc_runes {l bs : List Int} (h : enc l = some bs) : ∀ x ∈ l, -2147483648 ≤ x ∧ x ≤ 2147483647 := by
  induction l generalizing bs with
  | nil => intro x hx; cases hx
  | cons r l ih =>
    simp only [enc] at h
    split at h
    · rename_i hr
      cases he : enc l with
      | none => rw [he] at h; cases h
      | some y =>
        intro x hx
        rcases List.mem_cons.1 hx with rfl | h1
        · have hle := rune_le hr; omega
        · exact ih he x h1
    · cases h
theorem Decode_nil (H : Heap) : SC Try.prog 19 [.lst none 1 []] H (.tup [.lst (some 21) 1 [], .int .i64 0, .int .i64 0]) H := Decode_spec [] (by decide) (fun x hx => (by cases hx)) H
theorem Encode_nil (H : Heap) : SC Try.prog 17 [.lst none 1 []] H (.tup [.lst (some 5) 1 [], .int .i64 0]) H := Encode_spec [] (by decide) (fun x hx => (by cases hx)) H

/-- What is ahead moves only where it goes wrong and what comes first. -/
def shiftD (k : Nat) (acc : List Int) : List Int ⊕ Nat → List Int ⊕ Nat
  | .inl t => .inl (acc ++ t)
  | .inr j => .inr (k + j)
theorem go_shift : ∀ (n m : Nat) (b : List Int) (k k' : Nat) (acc acc' : List Int), b.length < n → b.length < m → decGo n b (k + k') (acc ++ acc') = shiftD k acc (decGo m b k' acc') := by
  intro n
  induction n with
  | zero => intro m b k k' acc acc' h; omega
  | succ n ih =>
    intro m b k k' acc acc' hn hm
    obtain ⟨m, rfl⟩ : ∃ j, m = j + 1 := ⟨m - 1, by omega⟩
    simp only [decGo]
    by_cases he : b.isEmpty = true
    · rw [if_pos he, if_pos he]; rfl
    · rw [if_neg he, if_neg he]
      have hbl : b.length ≠ 0 := fun e => he (by simpa using List.length_eq_zero_iff.1 e)
      cases hd : decOne b with
      | none => rfl
      | some r =>
        obtain ⟨d1, d2, d3⟩ := decOne_len hd
        simp only
        rw [Nat.add_assoc, List.append_assoc]
        exact ih m _ k _ acc _ (by simp; omega) (by simp; omega)
theorem dec_join : ∀ (l x b : List Int) (n k : Nat) (acc : List Int), enc l = some x → (x ++ b).length < n → decGo n (x ++ b) k acc = shiftD (k + x.length) (acc ++ l) (decB b) := by
  intro l
  induction l with
  | nil =>
    intro x b n k acc h hn
    simp [enc] at h
    subst h
    have := go_shift n (b.length + 1) b k 0 acc [] (by simpa using hn) (by omega)
    simpa [decB] using this
  | cons r l ih =>
    intro x b n k acc h hn
    simp only [enc] at h
    split at h
    · rename_i hr
      cases he : enc l with
      | none => rw [he] at h; cases h
      | some y =>
        rw [he] at h
        cases h
        obtain ⟨m, rfl⟩ : ∃ m, n = m + 1 := ⟨n - 1, by simp at hn; omega⟩
        have h1 := one_rb hr (y ++ b)
        have hp := rsz_pos hr
        have hne : (rb r ++ (y ++ b)).isEmpty = false := by
          cases hx : rb r ++ (y ++ b) with
          | nil => have := congrArg List.length hx; simp [rb_len] at this; omega
          | cons _ _ => rfl
        rw [List.append_assoc]
        simp only [decGo, hne, Bool.false_eq_true, if_false, h1]
        rw [← rb_len, List.drop_left]
        rw [ih y b m _ _ he (by simp [rb_len] at hn ⊢; omega)]
        congr 1
        · simp; omega
        · simp
    · cases h

theorem Encode_app (l m : List Int) (hn : l.length + m.length ≤ 200000) (hl : ∀ x ∈ l, -2147483648 ≤ x ∧ x ≤ 2147483647) (hm : ∀ x ∈ m, -2147483648 ≤ x ∧ x ≤ 2147483647) (H : Heap) : SC Try.prog 17 [.lst none 1 (l.map ri ++ m.map ri)] H (encV (enc (l ++ m))) H := by
  have := Encode_spec (l ++ m) (by simpa using hn) (fun x hx => (List.mem_append.1 hx).elim (hl x) (hm x)) H
  rwa [List.map_append] at this
theorem Decode_app (x b : List Int) (hn : x.length + b.length < 900000) (hx : ∀ z ∈ x, 0 ≤ z ∧ z < 256) (hb : ∀ z ∈ b, 0 ≤ z ∧ z < 256) (H : Heap) : SC Try.prog 19 [.lst none 1 (x.map ub ++ b.map ub)] H (decV (decB (x ++ b))) H := by
  have := Decode_spec (x ++ b) (by simpa using hn) (fun z hz => (List.mem_append.1 hz).elim (hx z) (hb z)) H
  rwa [List.map_append] at this
theorem Row_app (x y : List Int) (hn : x.length + y.length < 900000) (H : Heap) : SC Try.prog 21 [.lst none 1 (x.map ub ++ y.map ub), .lst none 1 (x.map ub ++ y.map ub)] H (.bool true) H := by
  have := Row_spec (x ++ y) (x ++ y) (by simp; omega) H
  simpa only [List.map_append, decide_true] using this
theorem rSame_app (x y : List Int) (hn : x.length + y.length < 900000) (H : Heap) : SC Try.prog 16 [.lst none 1 (x.map ri ++ y.map ri), .lst none 1 (x.map ri ++ y.map ri)] H (.bool true) H := by
  have := rSame_spec (x ++ y) (x ++ y) (by simp; omega) H
  simpa only [List.map_append, decide_true] using this
set_option maxRecDepth 100000 in
set_option maxHeartbeats 8000000 in
theorem Joins_law (l m b : List Int) (nl : l.length ≤ 140737488355328) (nm : m.length ≤ 140737488355328) (nb : b.length ≤ 140737488355328) (hl : ∀ x ∈ l, -2147483648 ≤ x ∧ x ≤ 2147483647) (hm : ∀ x ∈ m, -2147483648 ≤ x ∧ x ≤ 2147483647) (hb : ∀ x ∈ b, 0 ≤ x ∧ x < 256) (H : Heap) :
    SC Try.prog 6 [.lst none 1 (l.map ri), .lst none 1 (m.map ri), .lst none 1 (b.map ub)] H (.bool true) H := by
  refine SC_of_code mixed Try.func6 rfl (by kernel_rfl) (by kernel_rfl) (by kernel_rfl) (by simp [Try.f6]) (by rfl) ?_
  rw [Try.results6]
  by_cases g1 : l.length + m.length + b.length ≤ 1000
  · have hea := enc_app l m
    cases he : enc l with
    | none =>
      rw [he] at hea
      replace hea : enc (l ++ m) = none := hea
      cases hem : enc m with
      | none =>
        repeat' (first | (simp only [*, bt3, bt4, bt5, bt21, bt29, ce5, ce21, eo5, eo21, Try.underlying3, Try.underlying4, Try.underlying5, Try.underlying21, Try.underlying22, Try.underlying28, Try.underlying29, List.length_map, Nat.zero_lt_one, List.map_append, Int.natCast_inj, Int.ofNat_lt, idx_map, cellsVal, wrap_i64, wrap_i32, wrap_u8, IntKind.bits, Nat.min_def, Int.fdiv_eq_ediv_of_nonneg, u8_wrap, wrap_nat, zeroI, zeroB, fillS, splice, List.replicate, List.flatten, List.length_cons, List.length_nil, List.take, List.drop, List.append, SV.one, srcTy, List.flatten_cons, List.flatten_nil, Int.sub_self, Int.mul_zero, List.length_append, List.take_zero, Nat.mul_one, Nat.one_mul, Nat.zero_mul, Nat.zero_add, Nat.reduceAdd, Nat.reduceLeDiff, List.drop_nil, List.drop_succ_cons, List.take_succ_cons, List.drop_zero, encV_some, encV_none, decV_inl, decV_inr, cw_skip, cw_ret, cw_exit, cw_seq, cw_block, cw_region, cw_drawn, cw_cond, th_normal, th_ret, th_exit, ib_normal, ib_ret, ib_exit, rs_normal, rs_ret, ow_nil, ow_plain, ow_guard, stepW, gw_true, gw_false, cd_true, cd_false, condOf, not_decide, gd_true, gd_false, td_end, td_plain, td_guard, stepD, gOf, isCall, callOf, calledOf, argsOf,
 opEval, opEvalD, tOp, fsOf, eff, shE_at, wk_some, wk_none, appendT, pureEval, callE, lenE, moveE, takenIn, takes, extractE, appendE, srcCells, storeE, SV.cells?, SV.one, SV.share1, SV.share, putE, upd_at, ve_tmp, ve_func, ve_bool, ve_int, ve_str, ve_nil, binSV, unSV, convSV, cellsVal, boundE,
 Option.map, Option.bind, Option.getD, Nat.reduceEqDiff, Int.reduceSub, Int.reduceMul, Int.reduceAdd, Int.reduceNeg, Int.reduceLT, Int.reduceLE, Int.reduceGT, Int.reduceGE, Int.reduceEq, Int.reduceNe, Int.reducePow, Int.reduceToNat, Int.reduceDiv, Int.reduceMod, Int.reduceTDiv, Int.reduceTMod, Int.reduceFDiv, Nat.reduceAdd, Nat.reduceMul, Nat.reduceSub, Nat.reduceDiv, Nat.reduceMod, Nat.reduceLeDiff, Nat.reducePow, Int.cast_ofNat_Int, not_true_eq_false, not_false_eq_true, if_true, if_false, ↓reduceIte, initE, Bool.false_eq_true, List.getElem?_toArray, List.getElem?_cons_succ, List.getElem?_cons_zero, List.getElem?_nil, decide_true, decide_false, beq_self_eq_true,
 List.mapM_cons, List.mapM_nil, List.map_cons, List.map_nil, Option.bind_eq_bind, Option.pure_def, bind_pure_comp, Option.map_eq_map, List.any_cons, List.any_nil, retE, resE1, List.append_nil, List.nil_append, List.cons_append, reduceCtorEq, and_true, true_and, and_self, Bool.or_false, Bool.false_or, Bool.false_and, Bool.and_false, Bool.true_or, Bool.or_true, Bool.or_self, Bool.and_self, Bool.and_true, Bool.true_and, Option.some.injEq, List.set_cons_zero, List.set_cons_succ, Bool.not_true, Bool.not_false, drops_same, SV.bool.injEq, SV.int.injEq, SV.tup.injEq, List.cons.injEq]) | (simp (disch := (first | omega | (simp only [List.length_append, List.length_map, List.length_cons, List.length_nil]; omega))) only [room_true, wrap_i64, wrap_i32, idx_map, idx_int, slice_map]) | refine GuardW.splitN (fun _ => ?_) (fun _ => ?_) | refine GuardW.splitD (fun _ => ?_) (fun _ => ?_) | refine GuardW.split (fun _ => ?_) (fun _ => ?_) | refine CondW.splitN (fun _ => ?_) (fun _ => ?_) | refine CondW.splitD (fun _ => ?_) (fun _ => ?_) | refine CondW.split (fun _ => ?_) (fun _ => ?_) | refine GuardD.splitN (fun _ => ?_) (fun _ => ?_) | refine GuardD.splitD (fun _ => ?_) (fun _ => ?_) | refine GuardD.split (fun _ => ?_) (fun _ => ?_) | refine DrawW.of (by kernel_rfl) ?_ | refine CallW.of (shown_spec _) ?_ | refine CallW.ofG (shown_spec _) ?_ | refine CallD.of (shown_spec _) ?_ | refine CallW.of (Encode_spec l (by omega) hl _) ?_ | refine CallW.ofG (Encode_spec l (by omega) hl _) ?_ | refine CallD.of (Encode_spec l (by omega) hl _) ?_ | refine CallW.of (Encode_spec m (by omega) hm _) ?_ | refine CallW.ofG (Encode_spec m (by omega) hm _) ?_ | refine CallD.of (Encode_spec m (by omega) hm _) ?_ | refine CallW.of (Encode_app l m (by omega) hl hm _) ?_ | refine CallW.ofG (Encode_app l m (by omega) hl hm _) ?_ | refine CallD.of (Encode_app l m (by omega) hl hm _) ?_ | refine CallW.of (Decode_spec b (by omega) hb _) ?_ | refine CallW.ofG (Decode_spec b (by omega) hb _) ?_ | refine CallD.of (Decode_spec b (by omega) hb _) ?_ | refine CallW.of (Decode_app x b (by omega) hxb hb _) ?_ | refine CallW.ofG (Decode_app x b (by omega) hxb hb _) ?_ | refine CallD.of (Decode_app x b (by omega) hxb hb _) ?_ | refine CallW.of (Row_app x y (by omega) _) ?_ | refine CallW.ofG (Row_app x y (by omega) _) ?_ | refine CallD.of (Row_app x y (by omega) _) ?_ | refine CallW.of (rSame_app l t (by omega) _) ?_ | refine CallW.ofG (rSame_app l t (by omega) _) ?_ | refine CallD.of (rSame_app l t (by omega) _) ?_ | refine CallW.of (Row_nil _) ?_ | refine CallW.ofG (Row_nil _) ?_ | refine CallD.of (Row_nil _) ?_ | refine CallW.of (rSame_nil _) ?_ | refine CallW.ofG (rSame_nil _) ?_ | refine CallD.of (rSame_nil _) ?_)
        all_goals first | rfl | omega | (simp [*]; done) | (exfalso; omega)
      | some y =>
        repeat' (first | (simp only [*, bt3, bt4, bt5, bt21, bt29, ce5, ce21, eo5, eo21, Try.underlying3, Try.underlying4, Try.underlying5, Try.underlying21, Try.underlying22, Try.underlying28, Try.underlying29, List.length_map, Nat.zero_lt_one, List.map_append, Int.natCast_inj, Int.ofNat_lt, idx_map, cellsVal, wrap_i64, wrap_i32, wrap_u8, IntKind.bits, Nat.min_def, Int.fdiv_eq_ediv_of_nonneg, u8_wrap, wrap_nat, zeroI, zeroB, fillS, splice, List.replicate, List.flatten, List.length_cons, List.length_nil, List.take, List.drop, List.append, SV.one, srcTy, List.flatten_cons, List.flatten_nil, Int.sub_self, Int.mul_zero, List.length_append, List.take_zero, Nat.mul_one, Nat.one_mul, Nat.zero_mul, Nat.zero_add, Nat.reduceAdd, Nat.reduceLeDiff, List.drop_nil, List.drop_succ_cons, List.take_succ_cons, List.drop_zero, encV_some, encV_none, decV_inl, decV_inr, cw_skip, cw_ret, cw_exit, cw_seq, cw_block, cw_region, cw_drawn, cw_cond, th_normal, th_ret, th_exit, ib_normal, ib_ret, ib_exit, rs_normal, rs_ret, ow_nil, ow_plain, ow_guard, stepW, gw_true, gw_false, cd_true, cd_false, condOf, not_decide, gd_true, gd_false, td_end, td_plain, td_guard, stepD, gOf, isCall, callOf, calledOf, argsOf,
 opEval, opEvalD, tOp, fsOf, eff, shE_at, wk_some, wk_none, appendT, pureEval, callE, lenE, moveE, takenIn, takes, extractE, appendE, srcCells, storeE, SV.cells?, SV.one, SV.share1, SV.share, putE, upd_at, ve_tmp, ve_func, ve_bool, ve_int, ve_str, ve_nil, binSV, unSV, convSV, cellsVal, boundE,
 Option.map, Option.bind, Option.getD, Nat.reduceEqDiff, Int.reduceSub, Int.reduceMul, Int.reduceAdd, Int.reduceNeg, Int.reduceLT, Int.reduceLE, Int.reduceGT, Int.reduceGE, Int.reduceEq, Int.reduceNe, Int.reducePow, Int.reduceToNat, Int.reduceDiv, Int.reduceMod, Int.reduceTDiv, Int.reduceTMod, Int.reduceFDiv, Nat.reduceAdd, Nat.reduceMul, Nat.reduceSub, Nat.reduceDiv, Nat.reduceMod, Nat.reduceLeDiff, Nat.reducePow, Int.cast_ofNat_Int, not_true_eq_false, not_false_eq_true, if_true, if_false, ↓reduceIte, initE, Bool.false_eq_true, List.getElem?_toArray, List.getElem?_cons_succ, List.getElem?_cons_zero, List.getElem?_nil, decide_true, decide_false, beq_self_eq_true,
 List.mapM_cons, List.mapM_nil, List.map_cons, List.map_nil, Option.bind_eq_bind, Option.pure_def, bind_pure_comp, Option.map_eq_map, List.any_cons, List.any_nil, retE, resE1, List.append_nil, List.nil_append, List.cons_append, reduceCtorEq, and_true, true_and, and_self, Bool.or_false, Bool.false_or, Bool.false_and, Bool.and_false, Bool.true_or, Bool.or_true, Bool.or_self, Bool.and_self, Bool.and_true, Bool.true_and, Option.some.injEq, List.set_cons_zero, List.set_cons_succ, Bool.not_true, Bool.not_false, drops_same, SV.bool.injEq, SV.int.injEq, SV.tup.injEq, List.cons.injEq]) | (simp (disch := (first | omega | (simp only [List.length_append, List.length_map, List.length_cons, List.length_nil]; omega))) only [room_true, wrap_i64, wrap_i32, idx_map, idx_int, slice_map]) | refine GuardW.splitN (fun _ => ?_) (fun _ => ?_) | refine GuardW.splitD (fun _ => ?_) (fun _ => ?_) | refine GuardW.split (fun _ => ?_) (fun _ => ?_) | refine CondW.splitN (fun _ => ?_) (fun _ => ?_) | refine CondW.splitD (fun _ => ?_) (fun _ => ?_) | refine CondW.split (fun _ => ?_) (fun _ => ?_) | refine GuardD.splitN (fun _ => ?_) (fun _ => ?_) | refine GuardD.splitD (fun _ => ?_) (fun _ => ?_) | refine GuardD.split (fun _ => ?_) (fun _ => ?_) | refine DrawW.of (by kernel_rfl) ?_ | refine CallW.of (shown_spec _) ?_ | refine CallW.ofG (shown_spec _) ?_ | refine CallD.of (shown_spec _) ?_ | refine CallW.of (Encode_spec l (by omega) hl _) ?_ | refine CallW.ofG (Encode_spec l (by omega) hl _) ?_ | refine CallD.of (Encode_spec l (by omega) hl _) ?_ | refine CallW.of (Encode_spec m (by omega) hm _) ?_ | refine CallW.ofG (Encode_spec m (by omega) hm _) ?_ | refine CallD.of (Encode_spec m (by omega) hm _) ?_ | refine CallW.of (Encode_app l m (by omega) hl hm _) ?_ | refine CallW.ofG (Encode_app l m (by omega) hl hm _) ?_ | refine CallD.of (Encode_app l m (by omega) hl hm _) ?_ | refine CallW.of (Decode_spec b (by omega) hb _) ?_ | refine CallW.ofG (Decode_spec b (by omega) hb _) ?_ | refine CallD.of (Decode_spec b (by omega) hb _) ?_ | refine CallW.of (Decode_app x b (by omega) hxb hb _) ?_ | refine CallW.ofG (Decode_app x b (by omega) hxb hb _) ?_ | refine CallD.of (Decode_app x b (by omega) hxb hb _) ?_ | refine CallW.of (Row_app x y (by omega) _) ?_ | refine CallW.ofG (Row_app x y (by omega) _) ?_ | refine CallD.of (Row_app x y (by omega) _) ?_ | refine CallW.of (rSame_app l t (by omega) _) ?_ | refine CallW.ofG (rSame_app l t (by omega) _) ?_ | refine CallD.of (rSame_app l t (by omega) _) ?_ | refine CallW.of (Row_nil _) ?_ | refine CallW.ofG (Row_nil _) ?_ | refine CallD.of (Row_nil _) ?_ | refine CallW.of (rSame_nil _) ?_ | refine CallW.ofG (rSame_nil _) ?_ | refine CallD.of (rSame_nil _) ?_)
        all_goals first | rfl | omega | (simp [*]; done) | (exfalso; omega)
    | some x =>
      have hxl := enc_len he
      have hxb := enc_bytes he
      have hdj : decB (x ++ b) = shiftD (0 + x.length) ([] ++ l) (decB b) := dec_join l x b _ 0 [] he (by omega)
      rw [List.nil_append, Nat.zero_add] at hdj
      rw [he] at hea
      cases hem : enc m with
      | none =>
        rw [hem] at hea
        replace hea : enc (l ++ m) = none := hea
        cases hd : decB b with
        | inr j =>
          rw [hd] at hdj
          replace hdj : decB (x ++ b) = .inr (x.length + j) := hdj
          have hjc : ((x.length + j : Nat) : Int) = (j : Int) + x.length := by omega
          have hw := go_where _ _ _ _ _ (by omega) hd
          repeat' (first | (simp only [*, bt3, bt4, bt5, bt21, bt29, ce5, ce21, eo5, eo21, Try.underlying3, Try.underlying4, Try.underlying5, Try.underlying21, Try.underlying22, Try.underlying28, Try.underlying29, List.length_map, Nat.zero_lt_one, List.map_append, Int.natCast_inj, Int.ofNat_lt, idx_map, cellsVal, wrap_i64, wrap_i32, wrap_u8, IntKind.bits, Nat.min_def, Int.fdiv_eq_ediv_of_nonneg, u8_wrap, wrap_nat, zeroI, zeroB, fillS, splice, List.replicate, List.flatten, List.length_cons, List.length_nil, List.take, List.drop, List.append, SV.one, srcTy, List.flatten_cons, List.flatten_nil, Int.sub_self, Int.mul_zero, List.length_append, List.take_zero, Nat.mul_one, Nat.one_mul, Nat.zero_mul, Nat.zero_add, Nat.reduceAdd, Nat.reduceLeDiff, List.drop_nil, List.drop_succ_cons, List.take_succ_cons, List.drop_zero, encV_some, encV_none, decV_inl, decV_inr, cw_skip, cw_ret, cw_exit, cw_seq, cw_block, cw_region, cw_drawn, cw_cond, th_normal, th_ret, th_exit, ib_normal, ib_ret, ib_exit, rs_normal, rs_ret, ow_nil, ow_plain, ow_guard, stepW, gw_true, gw_false, cd_true, cd_false, condOf, not_decide, gd_true, gd_false, td_end, td_plain, td_guard, stepD, gOf, isCall, callOf, calledOf, argsOf,
 opEval, opEvalD, tOp, fsOf, eff, shE_at, wk_some, wk_none, appendT, pureEval, callE, lenE, moveE, takenIn, takes, extractE, appendE, srcCells, storeE, SV.cells?, SV.one, SV.share1, SV.share, putE, upd_at, ve_tmp, ve_func, ve_bool, ve_int, ve_str, ve_nil, binSV, unSV, convSV, cellsVal, boundE,
 Option.map, Option.bind, Option.getD, Nat.reduceEqDiff, Int.reduceSub, Int.reduceMul, Int.reduceAdd, Int.reduceNeg, Int.reduceLT, Int.reduceLE, Int.reduceGT, Int.reduceGE, Int.reduceEq, Int.reduceNe, Int.reducePow, Int.reduceToNat, Int.reduceDiv, Int.reduceMod, Int.reduceTDiv, Int.reduceTMod, Int.reduceFDiv, Nat.reduceAdd, Nat.reduceMul, Nat.reduceSub, Nat.reduceDiv, Nat.reduceMod, Nat.reduceLeDiff, Nat.reducePow, Int.cast_ofNat_Int, not_true_eq_false, not_false_eq_true, if_true, if_false, ↓reduceIte, initE, Bool.false_eq_true, List.getElem?_toArray, List.getElem?_cons_succ, List.getElem?_cons_zero, List.getElem?_nil, decide_true, decide_false, beq_self_eq_true,
 List.mapM_cons, List.mapM_nil, List.map_cons, List.map_nil, Option.bind_eq_bind, Option.pure_def, bind_pure_comp, Option.map_eq_map, List.any_cons, List.any_nil, retE, resE1, List.append_nil, List.nil_append, List.cons_append, reduceCtorEq, and_true, true_and, and_self, Bool.or_false, Bool.false_or, Bool.false_and, Bool.and_false, Bool.true_or, Bool.or_true, Bool.or_self, Bool.and_self, Bool.and_true, Bool.true_and, Option.some.injEq, List.set_cons_zero, List.set_cons_succ, Bool.not_true, Bool.not_false, drops_same, SV.bool.injEq, SV.int.injEq, SV.tup.injEq, List.cons.injEq]) | (simp (disch := (first | omega | (simp only [List.length_append, List.length_map, List.length_cons, List.length_nil]; omega))) only [room_true, wrap_i64, wrap_i32, idx_map, idx_int, slice_map]) | refine GuardW.splitN (fun _ => ?_) (fun _ => ?_) | refine GuardW.splitD (fun _ => ?_) (fun _ => ?_) | refine GuardW.split (fun _ => ?_) (fun _ => ?_) | refine CondW.splitN (fun _ => ?_) (fun _ => ?_) | refine CondW.splitD (fun _ => ?_) (fun _ => ?_) | refine CondW.split (fun _ => ?_) (fun _ => ?_) | refine GuardD.splitN (fun _ => ?_) (fun _ => ?_) | refine GuardD.splitD (fun _ => ?_) (fun _ => ?_) | refine GuardD.split (fun _ => ?_) (fun _ => ?_) | refine DrawW.of (by kernel_rfl) ?_ | refine CallW.of (shown_spec _) ?_ | refine CallW.ofG (shown_spec _) ?_ | refine CallD.of (shown_spec _) ?_ | refine CallW.of (Encode_spec l (by omega) hl _) ?_ | refine CallW.ofG (Encode_spec l (by omega) hl _) ?_ | refine CallD.of (Encode_spec l (by omega) hl _) ?_ | refine CallW.of (Encode_spec m (by omega) hm _) ?_ | refine CallW.ofG (Encode_spec m (by omega) hm _) ?_ | refine CallD.of (Encode_spec m (by omega) hm _) ?_ | refine CallW.of (Encode_app l m (by omega) hl hm _) ?_ | refine CallW.ofG (Encode_app l m (by omega) hl hm _) ?_ | refine CallD.of (Encode_app l m (by omega) hl hm _) ?_ | refine CallW.of (Decode_spec b (by omega) hb _) ?_ | refine CallW.ofG (Decode_spec b (by omega) hb _) ?_ | refine CallD.of (Decode_spec b (by omega) hb _) ?_ | refine CallW.of (Decode_app x b (by omega) hxb hb _) ?_ | refine CallW.ofG (Decode_app x b (by omega) hxb hb _) ?_ | refine CallD.of (Decode_app x b (by omega) hxb hb _) ?_ | refine CallW.of (Row_app x y (by omega) _) ?_ | refine CallW.ofG (Row_app x y (by omega) _) ?_ | refine CallD.of (Row_app x y (by omega) _) ?_ | refine CallW.of (rSame_app l t (by omega) _) ?_ | refine CallW.ofG (rSame_app l t (by omega) _) ?_ | refine CallD.of (rSame_app l t (by omega) _) ?_ | refine CallW.of (Row_nil _) ?_ | refine CallW.ofG (Row_nil _) ?_ | refine CallD.of (Row_nil _) ?_ | refine CallW.of (rSame_nil _) ?_ | refine CallW.ofG (rSame_nil _) ?_ | refine CallD.of (rSame_nil _) ?_)
          all_goals first | rfl | omega | (simp [*]; done) | (exfalso; omega)
        | inl t =>
          rw [hd] at hdj
          replace hdj : decB (x ++ b) = .inl (l ++ t) := hdj
          have htl := go_len _ _ _ _ _ hd
          simp only [List.length_nil] at htl
          repeat' (first | (simp only [*, bt3, bt4, bt5, bt21, bt29, ce5, ce21, eo5, eo21, Try.underlying3, Try.underlying4, Try.underlying5, Try.underlying21, Try.underlying22, Try.underlying28, Try.underlying29, List.length_map, Nat.zero_lt_one, List.map_append, Int.natCast_inj, Int.ofNat_lt, idx_map, cellsVal, wrap_i64, wrap_i32, wrap_u8, IntKind.bits, Nat.min_def, Int.fdiv_eq_ediv_of_nonneg, u8_wrap, wrap_nat, zeroI, zeroB, fillS, splice, List.replicate, List.flatten, List.length_cons, List.length_nil, List.take, List.drop, List.append, SV.one, srcTy, List.flatten_cons, List.flatten_nil, Int.sub_self, Int.mul_zero, List.length_append, List.take_zero, Nat.mul_one, Nat.one_mul, Nat.zero_mul, Nat.zero_add, Nat.reduceAdd, Nat.reduceLeDiff, List.drop_nil, List.drop_succ_cons, List.take_succ_cons, List.drop_zero, encV_some, encV_none, decV_inl, decV_inr, cw_skip, cw_ret, cw_exit, cw_seq, cw_block, cw_region, cw_drawn, cw_cond, th_normal, th_ret, th_exit, ib_normal, ib_ret, ib_exit, rs_normal, rs_ret, ow_nil, ow_plain, ow_guard, stepW, gw_true, gw_false, cd_true, cd_false, condOf, not_decide, gd_true, gd_false, td_end, td_plain, td_guard, stepD, gOf, isCall, callOf, calledOf, argsOf,
 opEval, opEvalD, tOp, fsOf, eff, shE_at, wk_some, wk_none, appendT, pureEval, callE, lenE, moveE, takenIn, takes, extractE, appendE, srcCells, storeE, SV.cells?, SV.one, SV.share1, SV.share, putE, upd_at, ve_tmp, ve_func, ve_bool, ve_int, ve_str, ve_nil, binSV, unSV, convSV, cellsVal, boundE,
 Option.map, Option.bind, Option.getD, Nat.reduceEqDiff, Int.reduceSub, Int.reduceMul, Int.reduceAdd, Int.reduceNeg, Int.reduceLT, Int.reduceLE, Int.reduceGT, Int.reduceGE, Int.reduceEq, Int.reduceNe, Int.reducePow, Int.reduceToNat, Int.reduceDiv, Int.reduceMod, Int.reduceTDiv, Int.reduceTMod, Int.reduceFDiv, Nat.reduceAdd, Nat.reduceMul, Nat.reduceSub, Nat.reduceDiv, Nat.reduceMod, Nat.reduceLeDiff, Nat.reducePow, Int.cast_ofNat_Int, not_true_eq_false, not_false_eq_true, if_true, if_false, ↓reduceIte, initE, Bool.false_eq_true, List.getElem?_toArray, List.getElem?_cons_succ, List.getElem?_cons_zero, List.getElem?_nil, decide_true, decide_false, beq_self_eq_true,
 List.mapM_cons, List.mapM_nil, List.map_cons, List.map_nil, Option.bind_eq_bind, Option.pure_def, bind_pure_comp, Option.map_eq_map, List.any_cons, List.any_nil, retE, resE1, List.append_nil, List.nil_append, List.cons_append, reduceCtorEq, and_true, true_and, and_self, Bool.or_false, Bool.false_or, Bool.false_and, Bool.and_false, Bool.true_or, Bool.or_true, Bool.or_self, Bool.and_self, Bool.and_true, Bool.true_and, Option.some.injEq, List.set_cons_zero, List.set_cons_succ, Bool.not_true, Bool.not_false, drops_same, SV.bool.injEq, SV.int.injEq, SV.tup.injEq, List.cons.injEq]) | (simp (disch := (first | omega | (simp only [List.length_append, List.length_map, List.length_cons, List.length_nil]; omega))) only [room_true, wrap_i64, wrap_i32, idx_map, idx_int, slice_map]) | refine GuardW.splitN (fun _ => ?_) (fun _ => ?_) | refine GuardW.splitD (fun _ => ?_) (fun _ => ?_) | refine GuardW.split (fun _ => ?_) (fun _ => ?_) | refine CondW.splitN (fun _ => ?_) (fun _ => ?_) | refine CondW.splitD (fun _ => ?_) (fun _ => ?_) | refine CondW.split (fun _ => ?_) (fun _ => ?_) | refine GuardD.splitN (fun _ => ?_) (fun _ => ?_) | refine GuardD.splitD (fun _ => ?_) (fun _ => ?_) | refine GuardD.split (fun _ => ?_) (fun _ => ?_) | refine DrawW.of (by kernel_rfl) ?_ | refine CallW.of (shown_spec _) ?_ | refine CallW.ofG (shown_spec _) ?_ | refine CallD.of (shown_spec _) ?_ | refine CallW.of (Encode_spec l (by omega) hl _) ?_ | refine CallW.ofG (Encode_spec l (by omega) hl _) ?_ | refine CallD.of (Encode_spec l (by omega) hl _) ?_ | refine CallW.of (Encode_spec m (by omega) hm _) ?_ | refine CallW.ofG (Encode_spec m (by omega) hm _) ?_ | refine CallD.of (Encode_spec m (by omega) hm _) ?_ | refine CallW.of (Encode_app l m (by omega) hl hm _) ?_ | refine CallW.ofG (Encode_app l m (by omega) hl hm _) ?_ | refine CallD.of (Encode_app l m (by omega) hl hm _) ?_ | refine CallW.of (Decode_spec b (by omega) hb _) ?_ | refine CallW.ofG (Decode_spec b (by omega) hb _) ?_ | refine CallD.of (Decode_spec b (by omega) hb _) ?_ | refine CallW.of (Decode_app x b (by omega) hxb hb _) ?_ | refine CallW.ofG (Decode_app x b (by omega) hxb hb _) ?_ | refine CallD.of (Decode_app x b (by omega) hxb hb _) ?_ | refine CallW.of (Row_app x y (by omega) _) ?_ | refine CallW.ofG (Row_app x y (by omega) _) ?_ | refine CallD.of (Row_app x y (by omega) _) ?_ | refine CallW.of (rSame_app l t (by omega) _) ?_ | refine CallW.ofG (rSame_app l t (by omega) _) ?_ | refine CallD.of (rSame_app l t (by omega) _) ?_ | refine CallW.of (Row_nil _) ?_ | refine CallW.ofG (Row_nil _) ?_ | refine CallD.of (Row_nil _) ?_ | refine CallW.of (rSame_nil _) ?_ | refine CallW.ofG (rSame_nil _) ?_ | refine CallD.of (rSame_nil _) ?_)
          all_goals first | rfl | omega | (simp [*]; done) | (exfalso; omega)
      | some y =>
        have hyl := enc_len hem
        rw [hem] at hea
        replace hea : enc (l ++ m) = some (x ++ y) := hea
        cases hd : decB b with
        | inr j =>
          rw [hd] at hdj
          replace hdj : decB (x ++ b) = .inr (x.length + j) := hdj
          have hjc : ((x.length + j : Nat) : Int) = (j : Int) + x.length := by omega
          have hw := go_where _ _ _ _ _ (by omega) hd
          repeat' (first | (simp only [*, bt3, bt4, bt5, bt21, bt29, ce5, ce21, eo5, eo21, Try.underlying3, Try.underlying4, Try.underlying5, Try.underlying21, Try.underlying22, Try.underlying28, Try.underlying29, List.length_map, Nat.zero_lt_one, List.map_append, Int.natCast_inj, Int.ofNat_lt, idx_map, cellsVal, wrap_i64, wrap_i32, wrap_u8, IntKind.bits, Nat.min_def, Int.fdiv_eq_ediv_of_nonneg, u8_wrap, wrap_nat, zeroI, zeroB, fillS, splice, List.replicate, List.flatten, List.length_cons, List.length_nil, List.take, List.drop, List.append, SV.one, srcTy, List.flatten_cons, List.flatten_nil, Int.sub_self, Int.mul_zero, List.length_append, List.take_zero, Nat.mul_one, Nat.one_mul, Nat.zero_mul, Nat.zero_add, Nat.reduceAdd, Nat.reduceLeDiff, List.drop_nil, List.drop_succ_cons, List.take_succ_cons, List.drop_zero, encV_some, encV_none, decV_inl, decV_inr, cw_skip, cw_ret, cw_exit, cw_seq, cw_block, cw_region, cw_drawn, cw_cond, th_normal, th_ret, th_exit, ib_normal, ib_ret, ib_exit, rs_normal, rs_ret, ow_nil, ow_plain, ow_guard, stepW, gw_true, gw_false, cd_true, cd_false, condOf, not_decide, gd_true, gd_false, td_end, td_plain, td_guard, stepD, gOf, isCall, callOf, calledOf, argsOf,
 opEval, opEvalD, tOp, fsOf, eff, shE_at, wk_some, wk_none, appendT, pureEval, callE, lenE, moveE, takenIn, takes, extractE, appendE, srcCells, storeE, SV.cells?, SV.one, SV.share1, SV.share, putE, upd_at, ve_tmp, ve_func, ve_bool, ve_int, ve_str, ve_nil, binSV, unSV, convSV, cellsVal, boundE,
 Option.map, Option.bind, Option.getD, Nat.reduceEqDiff, Int.reduceSub, Int.reduceMul, Int.reduceAdd, Int.reduceNeg, Int.reduceLT, Int.reduceLE, Int.reduceGT, Int.reduceGE, Int.reduceEq, Int.reduceNe, Int.reducePow, Int.reduceToNat, Int.reduceDiv, Int.reduceMod, Int.reduceTDiv, Int.reduceTMod, Int.reduceFDiv, Nat.reduceAdd, Nat.reduceMul, Nat.reduceSub, Nat.reduceDiv, Nat.reduceMod, Nat.reduceLeDiff, Nat.reducePow, Int.cast_ofNat_Int, not_true_eq_false, not_false_eq_true, if_true, if_false, ↓reduceIte, initE, Bool.false_eq_true, List.getElem?_toArray, List.getElem?_cons_succ, List.getElem?_cons_zero, List.getElem?_nil, decide_true, decide_false, beq_self_eq_true,
 List.mapM_cons, List.mapM_nil, List.map_cons, List.map_nil, Option.bind_eq_bind, Option.pure_def, bind_pure_comp, Option.map_eq_map, List.any_cons, List.any_nil, retE, resE1, List.append_nil, List.nil_append, List.cons_append, reduceCtorEq, and_true, true_and, and_self, Bool.or_false, Bool.false_or, Bool.false_and, Bool.and_false, Bool.true_or, Bool.or_true, Bool.or_self, Bool.and_self, Bool.and_true, Bool.true_and, Option.some.injEq, List.set_cons_zero, List.set_cons_succ, Bool.not_true, Bool.not_false, drops_same, SV.bool.injEq, SV.int.injEq, SV.tup.injEq, List.cons.injEq]) | (simp (disch := (first | omega | (simp only [List.length_append, List.length_map, List.length_cons, List.length_nil]; omega))) only [room_true, wrap_i64, wrap_i32, idx_map, idx_int, slice_map]) | refine GuardW.splitN (fun _ => ?_) (fun _ => ?_) | refine GuardW.splitD (fun _ => ?_) (fun _ => ?_) | refine GuardW.split (fun _ => ?_) (fun _ => ?_) | refine CondW.splitN (fun _ => ?_) (fun _ => ?_) | refine CondW.splitD (fun _ => ?_) (fun _ => ?_) | refine CondW.split (fun _ => ?_) (fun _ => ?_) | refine GuardD.splitN (fun _ => ?_) (fun _ => ?_) | refine GuardD.splitD (fun _ => ?_) (fun _ => ?_) | refine GuardD.split (fun _ => ?_) (fun _ => ?_) | refine DrawW.of (by kernel_rfl) ?_ | refine CallW.of (shown_spec _) ?_ | refine CallW.ofG (shown_spec _) ?_ | refine CallD.of (shown_spec _) ?_ | refine CallW.of (Encode_spec l (by omega) hl _) ?_ | refine CallW.ofG (Encode_spec l (by omega) hl _) ?_ | refine CallD.of (Encode_spec l (by omega) hl _) ?_ | refine CallW.of (Encode_spec m (by omega) hm _) ?_ | refine CallW.ofG (Encode_spec m (by omega) hm _) ?_ | refine CallD.of (Encode_spec m (by omega) hm _) ?_ | refine CallW.of (Encode_app l m (by omega) hl hm _) ?_ | refine CallW.ofG (Encode_app l m (by omega) hl hm _) ?_ | refine CallD.of (Encode_app l m (by omega) hl hm _) ?_ | refine CallW.of (Decode_spec b (by omega) hb _) ?_ | refine CallW.ofG (Decode_spec b (by omega) hb _) ?_ | refine CallD.of (Decode_spec b (by omega) hb _) ?_ | refine CallW.of (Decode_app x b (by omega) hxb hb _) ?_ | refine CallW.ofG (Decode_app x b (by omega) hxb hb _) ?_ | refine CallD.of (Decode_app x b (by omega) hxb hb _) ?_ | refine CallW.of (Row_app x y (by omega) _) ?_ | refine CallW.ofG (Row_app x y (by omega) _) ?_ | refine CallD.of (Row_app x y (by omega) _) ?_ | refine CallW.of (rSame_app l t (by omega) _) ?_ | refine CallW.ofG (rSame_app l t (by omega) _) ?_ | refine CallD.of (rSame_app l t (by omega) _) ?_ | refine CallW.of (Row_nil _) ?_ | refine CallW.ofG (Row_nil _) ?_ | refine CallD.of (Row_nil _) ?_ | refine CallW.of (rSame_nil _) ?_ | refine CallW.ofG (rSame_nil _) ?_ | refine CallD.of (rSame_nil _) ?_)
          all_goals first | rfl | omega | (simp [*]; done) | (exfalso; omega)
        | inl t =>
          rw [hd] at hdj
          replace hdj : decB (x ++ b) = .inl (l ++ t) := hdj
          have htl := go_len _ _ _ _ _ hd
          simp only [List.length_nil] at htl
          repeat' (first | (simp only [*, bt3, bt4, bt5, bt21, bt29, ce5, ce21, eo5, eo21, Try.underlying3, Try.underlying4, Try.underlying5, Try.underlying21, Try.underlying22, Try.underlying28, Try.underlying29, List.length_map, Nat.zero_lt_one, List.map_append, Int.natCast_inj, Int.ofNat_lt, idx_map, cellsVal, wrap_i64, wrap_i32, wrap_u8, IntKind.bits, Nat.min_def, Int.fdiv_eq_ediv_of_nonneg, u8_wrap, wrap_nat, zeroI, zeroB, fillS, splice, List.replicate, List.flatten, List.length_cons, List.length_nil, List.take, List.drop, List.append, SV.one, srcTy, List.flatten_cons, List.flatten_nil, Int.sub_self, Int.mul_zero, List.length_append, List.take_zero, Nat.mul_one, Nat.one_mul, Nat.zero_mul, Nat.zero_add, Nat.reduceAdd, Nat.reduceLeDiff, List.drop_nil, List.drop_succ_cons, List.take_succ_cons, List.drop_zero, encV_some, encV_none, decV_inl, decV_inr, cw_skip, cw_ret, cw_exit, cw_seq, cw_block, cw_region, cw_drawn, cw_cond, th_normal, th_ret, th_exit, ib_normal, ib_ret, ib_exit, rs_normal, rs_ret, ow_nil, ow_plain, ow_guard, stepW, gw_true, gw_false, cd_true, cd_false, condOf, not_decide, gd_true, gd_false, td_end, td_plain, td_guard, stepD, gOf, isCall, callOf, calledOf, argsOf,
 opEval, opEvalD, tOp, fsOf, eff, shE_at, wk_some, wk_none, appendT, pureEval, callE, lenE, moveE, takenIn, takes, extractE, appendE, srcCells, storeE, SV.cells?, SV.one, SV.share1, SV.share, putE, upd_at, ve_tmp, ve_func, ve_bool, ve_int, ve_str, ve_nil, binSV, unSV, convSV, cellsVal, boundE,
 Option.map, Option.bind, Option.getD, Nat.reduceEqDiff, Int.reduceSub, Int.reduceMul, Int.reduceAdd, Int.reduceNeg, Int.reduceLT, Int.reduceLE, Int.reduceGT, Int.reduceGE, Int.reduceEq, Int.reduceNe, Int.reducePow, Int.reduceToNat, Int.reduceDiv, Int.reduceMod, Int.reduceTDiv, Int.reduceTMod, Int.reduceFDiv, Nat.reduceAdd, Nat.reduceMul, Nat.reduceSub, Nat.reduceDiv, Nat.reduceMod, Nat.reduceLeDiff, Nat.reducePow, Int.cast_ofNat_Int, not_true_eq_false, not_false_eq_true, if_true, if_false, ↓reduceIte, initE, Bool.false_eq_true, List.getElem?_toArray, List.getElem?_cons_succ, List.getElem?_cons_zero, List.getElem?_nil, decide_true, decide_false, beq_self_eq_true,
 List.mapM_cons, List.mapM_nil, List.map_cons, List.map_nil, Option.bind_eq_bind, Option.pure_def, bind_pure_comp, Option.map_eq_map, List.any_cons, List.any_nil, retE, resE1, List.append_nil, List.nil_append, List.cons_append, reduceCtorEq, and_true, true_and, and_self, Bool.or_false, Bool.false_or, Bool.false_and, Bool.and_false, Bool.true_or, Bool.or_true, Bool.or_self, Bool.and_self, Bool.and_true, Bool.true_and, Option.some.injEq, List.set_cons_zero, List.set_cons_succ, Bool.not_true, Bool.not_false, drops_same, SV.bool.injEq, SV.int.injEq, SV.tup.injEq, List.cons.injEq]) | (simp (disch := (first | omega | (simp only [List.length_append, List.length_map, List.length_cons, List.length_nil]; omega))) only [room_true, wrap_i64, wrap_i32, idx_map, idx_int, slice_map]) | refine GuardW.splitN (fun _ => ?_) (fun _ => ?_) | refine GuardW.splitD (fun _ => ?_) (fun _ => ?_) | refine GuardW.split (fun _ => ?_) (fun _ => ?_) | refine CondW.splitN (fun _ => ?_) (fun _ => ?_) | refine CondW.splitD (fun _ => ?_) (fun _ => ?_) | refine CondW.split (fun _ => ?_) (fun _ => ?_) | refine GuardD.splitN (fun _ => ?_) (fun _ => ?_) | refine GuardD.splitD (fun _ => ?_) (fun _ => ?_) | refine GuardD.split (fun _ => ?_) (fun _ => ?_) | refine DrawW.of (by kernel_rfl) ?_ | refine CallW.of (shown_spec _) ?_ | refine CallW.ofG (shown_spec _) ?_ | refine CallD.of (shown_spec _) ?_ | refine CallW.of (Encode_spec l (by omega) hl _) ?_ | refine CallW.ofG (Encode_spec l (by omega) hl _) ?_ | refine CallD.of (Encode_spec l (by omega) hl _) ?_ | refine CallW.of (Encode_spec m (by omega) hm _) ?_ | refine CallW.ofG (Encode_spec m (by omega) hm _) ?_ | refine CallD.of (Encode_spec m (by omega) hm _) ?_ | refine CallW.of (Encode_app l m (by omega) hl hm _) ?_ | refine CallW.ofG (Encode_app l m (by omega) hl hm _) ?_ | refine CallD.of (Encode_app l m (by omega) hl hm _) ?_ | refine CallW.of (Decode_spec b (by omega) hb _) ?_ | refine CallW.ofG (Decode_spec b (by omega) hb _) ?_ | refine CallD.of (Decode_spec b (by omega) hb _) ?_ | refine CallW.of (Decode_app x b (by omega) hxb hb _) ?_ | refine CallW.ofG (Decode_app x b (by omega) hxb hb _) ?_ | refine CallD.of (Decode_app x b (by omega) hxb hb _) ?_ | refine CallW.of (Row_app x y (by omega) _) ?_ | refine CallW.ofG (Row_app x y (by omega) _) ?_ | refine CallD.of (Row_app x y (by omega) _) ?_ | refine CallW.of (rSame_app l t (by omega) _) ?_ | refine CallW.ofG (rSame_app l t (by omega) _) ?_ | refine CallD.of (rSame_app l t (by omega) _) ?_ | refine CallW.of (Row_nil _) ?_ | refine CallW.ofG (Row_nil _) ?_ | refine CallD.of (Row_nil _) ?_ | refine CallW.of (rSame_nil _) ?_ | refine CallW.ofG (rSame_nil _) ?_ | refine CallD.of (rSame_nil _) ?_)
          all_goals first | rfl | omega | (simp [*]; done) | (exfalso; omega)
  · repeat' (first | (simp only [*, bt3, bt4, bt5, bt21, bt29, ce5, ce21, eo5, eo21, Try.underlying3, Try.underlying4, Try.underlying5, Try.underlying21, Try.underlying22, Try.underlying28, Try.underlying29, List.length_map, Nat.zero_lt_one, List.map_append, Int.natCast_inj, Int.ofNat_lt, idx_map, cellsVal, wrap_i64, wrap_i32, wrap_u8, IntKind.bits, Nat.min_def, Int.fdiv_eq_ediv_of_nonneg, u8_wrap, wrap_nat, zeroI, zeroB, fillS, splice, List.replicate, List.flatten, List.length_cons, List.length_nil, List.take, List.drop, List.append, SV.one, srcTy, List.flatten_cons, List.flatten_nil, Int.sub_self, Int.mul_zero, List.length_append, List.take_zero, Nat.mul_one, Nat.one_mul, Nat.zero_mul, Nat.zero_add, Nat.reduceAdd, Nat.reduceLeDiff, List.drop_nil, List.drop_succ_cons, List.take_succ_cons, List.drop_zero, cw_skip, cw_ret, cw_exit, cw_seq, cw_block, cw_region, cw_drawn, cw_cond, th_normal, th_ret, th_exit, ib_normal, ib_ret, ib_exit, rs_normal, rs_ret, ow_nil, ow_plain, ow_guard, stepW, gw_true, gw_false, cd_true, cd_false, condOf, not_decide, gd_true, gd_false, td_end, td_plain, td_guard, stepD, gOf, isCall, callOf, calledOf, argsOf,
 opEval, opEvalD, tOp, fsOf, eff, shE_at, wk_some, wk_none, appendT, pureEval, callE, lenE, moveE, takenIn, takes, extractE, appendE, srcCells, storeE, SV.cells?, SV.one, SV.share1, SV.share, putE, upd_at, ve_tmp, ve_func, ve_bool, ve_int, ve_str, ve_nil, binSV, unSV, convSV, cellsVal, boundE,
 Option.map, Option.bind, Option.getD, Nat.reduceEqDiff, Int.reduceSub, Int.reduceMul, Int.reduceAdd, Int.reduceNeg, Int.reduceLT, Int.reduceLE, Int.reduceGT, Int.reduceGE, Int.reduceEq, Int.reduceNe, Int.reducePow, Int.reduceToNat, Int.reduceDiv, Int.reduceMod, Int.reduceTDiv, Int.reduceTMod, Int.reduceFDiv, Nat.reduceAdd, Nat.reduceMul, Nat.reduceSub, Nat.reduceDiv, Nat.reduceMod, Nat.reduceLeDiff, Nat.reducePow, Int.cast_ofNat_Int, not_true_eq_false, not_false_eq_true, if_true, if_false, ↓reduceIte, initE, Bool.false_eq_true, List.getElem?_toArray, List.getElem?_cons_succ, List.getElem?_cons_zero, List.getElem?_nil, decide_true, decide_false, beq_self_eq_true,
 List.mapM_cons, List.mapM_nil, List.map_cons, List.map_nil, Option.bind_eq_bind, Option.pure_def, bind_pure_comp, Option.map_eq_map, List.any_cons, List.any_nil, retE, resE1, List.append_nil, List.nil_append, List.cons_append, reduceCtorEq, and_true, true_and, and_self, Bool.or_false, Bool.false_or, Bool.false_and, Bool.and_false, Bool.true_or, Bool.or_true, Bool.or_self, Bool.and_self, Bool.and_true, Bool.true_and, Option.some.injEq, List.set_cons_zero, List.set_cons_succ, Bool.not_true, Bool.not_false, drops_same, SV.bool.injEq, SV.int.injEq, SV.tup.injEq, List.cons.injEq]) | (simp (disch := (first | omega | (simp only [List.length_append, List.length_map, List.length_cons, List.length_nil]; omega))) only [room_true, wrap_i64, wrap_i32, idx_map, idx_int, slice_map]) | refine GuardW.splitN (fun _ => ?_) (fun _ => ?_) | refine GuardW.splitD (fun _ => ?_) (fun _ => ?_) | refine GuardW.split (fun _ => ?_) (fun _ => ?_) | refine CondW.splitN (fun _ => ?_) (fun _ => ?_) | refine CondW.splitD (fun _ => ?_) (fun _ => ?_) | refine CondW.split (fun _ => ?_) (fun _ => ?_) | refine GuardD.splitN (fun _ => ?_) (fun _ => ?_) | refine GuardD.splitD (fun _ => ?_) (fun _ => ?_) | refine GuardD.split (fun _ => ?_) (fun _ => ?_) | refine DrawW.of (by kernel_rfl) ?_ | refine CallW.of (shown_spec _) ?_ | refine CallW.ofG (shown_spec _) ?_ | refine CallD.of (shown_spec _) ?_)
    all_goals first | rfl | omega | (exfalso; omega)

set_option maxRecDepth 100000 in
theorem UtfJoins_lifted (os : Os) (started : os.Started) (H : Type) (enc : TypeId × Value → H) :
    ReturnsInHanded {} Try.checked os 6 .any (Rows.utfJoinsSpec.pre6 enc Try.prog Try.f6 Rows.utfJoinsRow.domain false) (Rows.utfJoinsSpec.post enc Try.prog Try.f6 false true false false) := by
  refine returnsInHanded_of_change_sized (C := Try.checked) Try.own started (by kernel_rfl) Try.func6
    (ChangeSpec.witness6 (enc := enc) (C := Try.checked) false ⟨#[], #[.slice none 0 0, .slice none 0 0, .slice none 0 0], []⟩ 8 (by kernel_rfl) (by kernel_rfl) (by kernel_rfl) (by kernel_rfl)) ?_
  intro W base args ds gs before hval0 hW _ hsz0 _
  have hsz : (DataW.weightsEach Try.prog (Try.f6.params.toList ++ Rows.utfJoinsSpec.plain.varTypes Try.prog) (ds ++ gs)).all (· ≤ reachBytes) = true := hsz0
  clear hsz0
  refine law_post (P := Try.prog) (n := 3) (tb := 4) Try.laidOut Try.underlying4 rfl rfl (by kernel_rfl) (fun h => ?_) hval0 hW ?_
  · rw [Try.params6] at h
    obtain ⟨d1, d2, d3, rfl⟩ := len3 h
    exact ⟨rfl, rfl, rfl⟩
  · intro ss hg hl1 hl2 hs
    subst hg
    rw [Try.params6] at hl1 hl2 hs hsz
    obtain ⟨d1, d2, d3, rfl⟩ := len3 hl1
    obtain ⟨s1, s2, s3, rfl⟩ := len3 hl2
    obtain ⟨l, rfl, wl, ll⟩ := shows_ints (n := 1) (k := .i32) Try.underlying22 Try.underlying21 ce21 (hs 0 22 _ _ rfl rfl rfl)
    have nl := reach_len hsz (j := 0) rfl rfl Try.underlying22 (by rw [by21]; decide) ll
    obtain ⟨m, rfl, wm, lm⟩ := shows_ints (n := 1) (k := .i32) Try.underlying22 Try.underlying21 ce21 (hs 1 22 _ _ rfl rfl rfl)
    have nm := reach_len hsz (j := 1) rfl rfl Try.underlying22 (by rw [by21]; decide) lm
    obtain ⟨b, rfl, wb, lb⟩ := shows_ints (n := 1) (k := .u8) Try.underlying28 Try.underlying5 ce5 (hs 2 28 _ _ rfl rfl rfl)
    have nb := reach_len hsz (j := 2) rfl rfl Try.underlying28 (by rw [by5]; decide) lb
    exact Joins_law l m b (by omega) (by omega) (by omega) (fun x hx => wf_i32 (wl x hx)) (fun x hx => wf_i32 (wm x hx)) (fun x hx => (by have := wf_u8 (wb x hx); omega)) []

theorem UtfJoins_holds : Rows.UtfJoinsSaid :=
  OpenClaim.holds_of_wide 6 Try.f6 rfl rfl rfl rfl rfl rfl rfl ⟨rfl, rfl, rfl, rfl, rfl⟩ rfl rfl rfl rfl rfl (by kernel_rfl) Try.func6 (by kernel_rfl)
    (of_decide_eq_true (by kernel_rfl)) (by unfold Func.isWrapper; first | (rw [if_pos (by decide +kernel)]; kernel_rfl) | (rw [if_neg (by decide +kernel)]; exact ⟨rfl, rfl⟩))
    (fun os started H enc _ => UtfJoins_lifted os started H enc)

end Go.Proofs.Ytbgebincgfpanaa
