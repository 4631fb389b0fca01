/-
  The statement PackTaken is proved: at every input the law answers true, and its input reads as it did. No conditions.
-/
import Derived.Test.YtdeaonfclkffnaaP
import Derived.Test.YtdeaonfclkffnaaRows
import Derived.ProofKit
import Derived.SizedLaws
namespace Go.Proofs.Ytdeaonfclkffnaa
open Go Go.Sy Go.RowKit Go.ChangeShapes Go.WideShapes Go.ChangeAt
set_option linter.unusedVariables false
set_option linter.unusedSimpArgs false
set_option maxRecDepth 100000

theorem Try.own : ownKnob Try.prog.godebug = none := by kernel_rfl
theorem Try.laidOut : laidOutB Try.prog = true := by kernel_rfl

theorem listN4 {α : Type} {l : List α} (h : l.length = 4) : ∃ a0 a1 a2 a3, l = [a0, a1, a2, a3] := by
  match l, h with
  | [a0, a1, a2, a3], _ => exact ⟨a0, a1, a2, a3, rfl⟩
/-- Its numbers are numbers of their kinds, its lists no longer than memory. -/
def WfSt24 (x : St24) : Prop := (WfL (WfI .u8)) x.B_ ∧ (WfI .u32) x.N_ ∧ (WfI .i64) x.Size_ ∧ (WfI .i64) x.At_
theorem tells_T25 {n : Nat} : Tells Try.prog (n + 3) 25 encSt24 WfSt24 := fun d cs h hs => by
  have hl : cs.length = 4 := (shows_len Try.underlying25 h).trans (by kernel_rfl)
  obtain ⟨c0, c1, c2, c3, rfl⟩ := listN4 hl
  obtain ⟨p0, h0, z0⟩ := shows_field Try.underlying25 h hs 0 22 [c0] (by kernel_rfl)
  obtain ⟨x0, e0, w0⟩ : ∃ x : List Int, [c0] = (encL (encI .u8) 1) x ∧ (WfL (WfI .u8)) x := (tells_list (enc := (encI .u8)) (Wf := (WfI .u8)) Try.underlying22 (k := 1) (by kernel_rfl) (by kernel_rfl) (tells_int Try.underlying5)) p0 _ h0 z0
  obtain ⟨p1, h1, z1⟩ := shows_field Try.underlying25 h hs 1 23 [c1] (by kernel_rfl)
  obtain ⟨x1, e1, w1⟩ : ∃ x : Int, [c1] = (encI .u32) x ∧ (WfI .u32) x := (tells_int Try.underlying23) p1 _ h1 z1
  obtain ⟨p2, h2, z2⟩ := shows_field Try.underlying25 h hs 2 3 [c2] (by kernel_rfl)
  obtain ⟨x2, e2, w2⟩ : ∃ x : Int, [c2] = (encI .i64) x ∧ (WfI .i64) x := (tells_int Try.underlying3) p2 _ h2 z2
  obtain ⟨p3, h3, z3⟩ := shows_field Try.underlying25 h hs 3 3 [c3] (by kernel_rfl)
  obtain ⟨x3, e3, w3⟩ : ∃ x : Int, [c3] = (encI .i64) x ∧ (WfI .i64) x := (tells_int Try.underlying3) p3 _ h3 z3
  refine ⟨⟨x0, x1, x2, x3⟩, ?_, ⟨w0, w1, w2, w3⟩⟩
  show [c0] ++ [c1] ++ [c2] ++ [c3] = ((encL (encI .u8) 1) x0 ++ (encI .u32) x1 ++ (encI .i64) x2 ++ (encI .i64) x3)
  rw [e0, e1, e2, e3]
/-- Its numbers are numbers of their kinds, its lists no longer than memory. -/
def WfSt57 (x : St57) : Prop := (WfL (WfI .u8)) x.B_ ∧ (WfI .u32) x.N_ ∧ (WfI .i64) x.Size_ ∧ (WfL WfT) x.L_
theorem tells_T58 {n : Nat} : Tells Try.prog (n + 3) 58 encSt57 WfSt57 := fun d cs h hs => by
  have hl : cs.length = 4 := (shows_len Try.underlying58 h).trans (by kernel_rfl)
  obtain ⟨c0, c1, c2, c3, rfl⟩ := listN4 hl
  obtain ⟨p0, h0, z0⟩ := shows_field Try.underlying58 h hs 0 22 [c0] (by kernel_rfl)
  obtain ⟨x0, e0, w0⟩ : ∃ x : List Int, [c0] = (encL (encI .u8) 1) x ∧ (WfL (WfI .u8)) x := (tells_list (enc := (encI .u8)) (Wf := (WfI .u8)) Try.underlying22 (k := 1) (by kernel_rfl) (by kernel_rfl) (tells_int Try.underlying5)) p0 _ h0 z0
  obtain ⟨p1, h1, z1⟩ := shows_field Try.underlying58 h hs 1 23 [c1] (by kernel_rfl)
  obtain ⟨x1, e1, w1⟩ : ∃ x : Int, [c1] = (encI .u32) x ∧ (WfI .u32) x := (tells_int Try.underlying23) p1 _ h1 z1
  obtain ⟨p2, h2, z2⟩ := shows_field Try.underlying58 h hs 2 3 [c2] (by kernel_rfl)
  obtain ⟨x2, e2, w2⟩ : ∃ x : Int, [c2] = (encI .i64) x ∧ (WfI .i64) x := (tells_int Try.underlying3) p2 _ h2 z2
  obtain ⟨p3, h3, z3⟩ := shows_field Try.underlying58 h hs 3 38 [c3] (by kernel_rfl)
  obtain ⟨x3, e3, w3⟩ : ∃ x : List (List UInt8), [c3] = (encL encT 1) x ∧ (WfL WfT) x := (tells_list (enc := encT) (Wf := WfT) Try.underlying38 (k := 1) (by kernel_rfl) (by kernel_rfl) (tells_str Try.underlying9)) p3 _ h3 z3
  refine ⟨⟨x0, x1, x2, x3⟩, ?_, ⟨w0, w1, w2, w3⟩⟩
  show [c0] ++ [c1] ++ [c2] ++ [c3] = ((encL (encI .u8) 1) x0 ++ (encI .u32) x1 ++ (encI .i64) x2 ++ (encL encT 1) x3)
  rw [e0, e1, e2, e3]
theorem shown_eq : exerguelaw09_shown = some true := by kernel_rfl

theorem put_any {l : List Nat} {n : Nat} {k : Int} (hn : n < 4294967296) (hl : l.length ≤ 4294967200) : ∃ r : List Nat × Int, pack_Put (up l) (n : Int) k = some (up r.1, r.2) ∧ exergueref09_Put (up l) (n : Int) k = some (up r.1, r.2) ∧ r.1.length ≤ l.length + 4 := by
  by_cases hk : k < 0
  · exact ⟨(l, 1), put_neg hk hl, rput_neg hk hl, by simp⟩
  · obtain ⟨k, rfl⟩ := Int.eq_ofNat_of_zero_le (show 0 ≤ k by omega)
    refine ⟨putV l n k, put_eq hn hl, rput_eq hn hl, ?_⟩
    unfold putV
    split
    · rename_i h
      have := sz_le h.1
      simp [beN_len]; omega
    · simp
theorem Numbers_true (x : St24) (w : WfSt24 x) : exerguelaw09_PackNumbers x = some true := by
  obtain ⟨B, N, S, A⟩ := x
  obtain ⟨w1, w2, w3, w4⟩ := w
  have v2 : 0 ≤ N ∧ N < 4294967296 := wf_u32 w2
  have v3 : -9223372036854775808 ≤ S ∧ S < 9223372036854775808 := wf_i64 w3
  have v4 : -9223372036854775808 ≤ A ∧ A < 9223372036854775808 := wf_i64 w4
  clear w2 w3 w4
  simp only at w1
  obtain ⟨l, rfl, hl, hlen⟩ := up_of w1
  obtain ⟨n, rfl⟩ := Int.eq_ofNat_of_zero_le v2.1
  unfold exerguelaw09_PackNumbers
  simp only
  rw [shown_eq, up_len]
  simp only [Option.bind_some]
  by_cases h : l.length ≤ 1000
  · obtain ⟨r, r1, r2, r3⟩ := put_any (l := l) (n := n) (k := S) (by omega) (by omega)
    rw [dF (by omega), r1, r2, take_eq hl (by omega) v4 v3, rtake_eq hl (by omega) v4 v3]
    simp only [Option.bind_some, cond_true, cond_false]
    rw [rrow_eq (by rw [up_len]; omega)]
    simp
  · rw [dT (by omega)]; rfl

theorem up_len_le {l : List Nat} {n : Nat} (h : l.length ≤ n) : (up l).length ≤ n := by rw [up_len]; exact h
theorem texts_wf {l : List Tx} (h : WfL WfT l) : ∀ t ∈ l, t.length ≤ 140737488355328 := fun t ht => h.2 t ht
theorem Texts_true (l : List Tx) (w1 : WfL WfT l) (refs : List Int) (w2 : WfL (WfI .i64) refs) : exerguelaw09_PackTexts l refs = some true := by
  unfold exerguelaw09_PackTexts
  rw [shown_eq]
  simp only [Option.bind_some]
  obtain ⟨b, hb, hs⟩ := short_eq w1.1 (texts_wf w1)
  rw [hb]
  cases b with
  | false => rfl
  | true =>
    obtain ⟨s1, s2⟩ := hs rfl
    simp only [Option.bind_some, Bool.not_true, cond_false]
    by_cases h : refs.length ≤ 600
    · have hg := gat_len l
      rw [dF (by omega), gather_eq (by omega), rgather_eq (by omega), spread_eq (by omega), rspread_eq (by omega)]
      have hsl : (sprV l refs).1.length ≤ refs.length := by unfold sprV; split <;> simp
      simp only [Option.bind_some, cond_true, cond_false, joinX]
      rw [rtexts_eq (by omega), rints_eq (by rw [up_len]; omega), rtexts_eq (by omega)]
      simp
    · rw [dT (by omega)]; rfl

theorem Pools_true (b : List Int) (w1 : WfL (WfI .u8) b) (l : List Tx) (w2 : WfL WfT l) (i : Int) (w3 : WfI .i64 i) : exerguelaw09_PackPools b l i = some true := by
  obtain ⟨b, rfl, hb, hblen⟩ := up_of w1
  have w3 := wf_i64 w3
  unfold exerguelaw09_PackPools
  rw [shown_eq, up_len]
  simp only [Option.bind_some]
  obtain ⟨q, hq, hs⟩ := short_eq w2.1 (texts_wf w2)
  rw [hq]
  cases q with
  | false => rfl
  | true =>
    obtain ⟨s1, s2⟩ := hs rfl
    simp only [Option.bind_some, Bool.not_true, cond_false]
    by_cases h : b.length ≤ 20000
    · rw [dF (by omega), putp_eq (by omega) (by omega), rputp_eq (by omega) (by omega), takep_eq hb (by omega) w3, rtakep_eq hb (by omega) w3]
      have h1 : (putPV b l).1.length ≤ 4000000 := by
        unfold putPV
        split
        · rename_i hp
          have := pbytes_len hp.2.1
          have := hp.1
          simp [beN_len]; omega
        · simp; omega
      have h2 : (tpV b i).1.length ≤ 4000000 := by
        unfold tpV
        split
        · simp
        · split
          · simp
          · split
            · simp
            · rename_i p j hpj
              split
              · rename_i hp; have := hp.1; simp only; omega
              · simp
      simp only [Option.bind_some, cond_true, cond_false, joinX]
      rw [rrow_eq (by rw [up_len]; omega), rtexts_eq (by omega)]
      simp
    · rw [dT (by omega)]; rfl

theorem Spreads_true (l : List Tx) (w1 : WfL WfT l) (refs : List Int) (w2 : WfL (WfI .i64) refs) : exerguelaw09_PackSpreads l refs = some true := by
  unfold exerguelaw09_PackSpreads
  rw [shown_eq]
  simp only [Option.bind_some]
  obtain ⟨b, hb, hs⟩ := short_eq w1.1 (texts_wf w1)
  rw [hb]
  cases b with
  | false => rfl
  | true =>
    obtain ⟨s1, s2⟩ := hs rfl
    simp only [Option.bind_some, Bool.not_true, cond_false]
    by_cases h : refs.length ≤ 600
    · rw [dF (by omega), spread_eq (by omega)]
      simp only [Option.bind_some, cond_true, cond_false, joinX]
      refine bind_of (fun o => o = refs.all (okR l)) ⟨_, loop_fold refs (fun pre => (pre.all (okR l), (pre.length : Int))) (refs.all (okR l)) rfl (fun pre x suf hx => ?_) (by simp only; rw [lt_end]; rfl) (by omega), rfl⟩ ?_
      · have hl' : (pre ++ x :: suf).length ≤ 4611686018427387904 := by rw [← hx]; omega
        simp only
        rw [hx, lt_mid, inR_mid, nth_mid, w_mid hl', List.all_append]
        cases pre.all (okR l) with
        | false => simp
        | true =>
          by_cases h1 : 0 ≤ x
          · rw [dT (show x ≥ 0 from h1)]; simp [okR, h1]
          · rw [dF (show ¬ x ≥ 0 from h1)]; simp [okR, h1]
      · rintro o rfl
        cases ha : refs.all (okR l) with
        | false =>
          have : sprV l refs = ([], 7) := by unfold sprV; rw [ha]; rfl
          rw [this]; rfl
        | true =>
          have : sprV l refs = (refs.map fun r => nth l r, 0) := by unfold sprV; rw [ha]; rfl
          rw [this]
          simp only [Bool.not_true, cond_false]
          rw [dF (by simp), dF (show ¬ ¬ (((refs.map fun r => nth l r).length : Nat) : Int) = refs.length by simp)]
          simp only [Option.bind_some, cond_false, joinX]
          refine bind_of (fun o => o = .inl ()) ⟨_, loop_fold refs (fun pre => (pre.length : Int)) (.inl ()) rfl (fun pre x suf hx => ?_) (by rw [lt_end]; rfl) (by omega), rfl⟩ (fun o ho => by rw [ho]; rfl)
          have hl' : (pre ++ x :: suf).length ≤ 4611686018427387904 := by rw [← hx]; omega
          have hok : okR l x = true := List.all_eq_true.1 ha x (by rw [hx]; simp)
          unfold okR at hok
          simp only [Bool.and_eq_true, decide_eq_true_eq] at hok
          have hm : (pre ++ x :: suf).map (fun r => nth l r) = pre.map (fun r => nth l r) ++ nth l x :: suf.map (fun r => nth l r) := by simp
          have n1 : nth ((pre ++ x :: suf).map (fun r => nth l r)) (pre.length : Int) = nth l x := by
            rw [hm]
            have := nth_mid (pre := pre.map (fun r => nth l r)) (x := nth l x) (suf := suf.map (fun r => nth l r))
            rwa [List.length_map] at this
          have i1 : inR (pre.length : Int) ((pre ++ x :: suf).map (fun r => nth l r)).length = true := inR_nat (by simp)
          rw [hx, lt_mid, inR_mid, nth_mid, w_mid hl', i1, n1, inR_int hok.1 hok.2]
          simp
    · rw [dT (by omega)]; rfl

/-- Numbers of one size, one behind the other. -/
def rowB (k : Nat) (l : List Nat) : List Nat := l.flatMap fun n => beN n k
theorem rowB_len (k : Nat) (l : List Nat) : (rowB k l).length = l.length * k := by
  induction l with
  | nil => simp [rowB]
  | cons x l ih =>
    simp only [rowB, List.flatMap_cons, List.length_append, beN_len, List.length_cons] at ih ⊢
    rw [ih, Nat.add_mul]; omega
theorem rowB_snoc (k : Nat) (l : List Nat) (x : Nat) : rowB k (l ++ [x]) = rowB k l ++ beN x k := by simp [rowB]
theorem rowB_bytes (k : Nat) (l : List Nat) : bytesP (rowB k l) := fun c hc => by
  unfold rowB at hc
  obtain ⟨t, _, ht⟩ := List.mem_flatMap.1 hc
  exact beN_bytes _ _ c ht
theorem nats_of {xs : List Int} (h : WfL (WfI .u32) xs) : ∃ l : List Nat, xs = up l ∧ (∀ n ∈ l, n < 4294967296) ∧ l.length = xs.length := by
  refine ⟨xs.map Int.toNat, ?_, ?_, by simp⟩
  · unfold up
    rw [List.map_map]
    have : ∀ x ∈ xs, ((fun n : Nat => (n : Int)) ∘ Int.toNat) x = x := fun x hx => by
      have := wf_u32 (h.2 x hx); simp; omega
    rw [List.map_congr_left this]; simp
  · intro c hc
    rw [List.mem_map] at hc
    obtain ⟨x, hx, rfl⟩ := hc
    have := wf_u32 (h.2 x hx); omega
theorem takeV_bad {l : List Nat} {k : Int} : (takeV l (l.length : Int) k).2.2 ≠ 0 := by
  unfold takeV
  split
  · simp
  · rename_i h
    have hs : sz k.toNat := Decidable.byContradiction fun q => h (.inl q)
    have := sz_le hs
    rw [if_pos (by omega)]; simp

theorem Row_true (xs : List Int) (w1 : WfL (WfI .u32) xs) (k : Int) (w2 : WfI .i64 k) : exerguelaw09_PackRow xs k = some true := by
  obtain ⟨l, rfl, hl, hlen⟩ := nats_of w1
  have w2 := wf_i64 w2
  unfold exerguelaw09_PackRow
  rw [shown_eq, up_len]
  simp only [Option.bind_some]
  by_cases h : l.length ≤ 100
  · rw [dF (by omega)]
    simp only [cond_false]
    refine bind_of (fun o => o = .inr true ∨ (o = .inl (up (rowB k.toNat l)) ∧ (l = [] ∨ (0 ≤ k ∧ sz k.toNat ∧ ∀ n ∈ l, n < 256 ^ k.toNat)))) (loop_row l (fun pre => (up (rowB k.toNat pre), ((up pre).length : Int))) (fun pre => pre = [] ∨ (0 ≤ k ∧ sz k.toNat ∧ ∀ n ∈ pre, n < 256 ^ k.toNat)) _ rfl (.inl rfl) (fun pre x suf hx hi => ?_) (fun hi => ⟨.inl (up (rowB k.toNat l)), by simp only; rw [up_len, dF (by omega)]; rfl, .inr ⟨rfl, hi⟩⟩) (by omega)) ?_
    · have hu : up l = up pre ++ (x : Int) :: up suf := by rw [hx, up_append, up_cons]
      have hl' : (up pre ++ (x : Int) :: up suf).length ≤ 4611686018427387904 := by rw [← hu, up_len]; omega
      have hll : (l.length : Int) = ((up pre ++ (x : Int) :: up suf).length : Int) := by rw [← hu, up_len]
      have hln : l.length = (up pre ++ (x : Int) :: up suf).length := by omega
      have hxn := hl x (by rw [hx]; simp)
      have hpl : pre.length < l.length := by rw [hx]; simp
      have e1 : up (pre ++ [x]) = up pre ++ [(x : Int)] := by rw [up_append]; rfl
      by_cases hok : 0 ≤ k ∧ sz k.toNat ∧ x < 256 ^ k.toNat
      · left
        obtain ⟨k0, k1, k2⟩ := hok
        obtain ⟨k, rfl⟩ := Int.eq_ofNat_of_zero_le k0
        rw [Int.toNat_natCast] at k1 k2 hi ⊢
        have hk4 := sz_le k1
        have hrl : (rowB k pre).length ≤ 400 := by
          rw [rowB_len]
          have : pre.length * k ≤ 100 * 4 := Nat.mul_le_mul (by omega) hk4.2
          omega
        refine ⟨?_, .inr ⟨by omega, k1, fun n hn => ?_⟩⟩
        · simp only
          rw [hll, hln, hu, lt_mid, inR_mid, nth_mid, w_mid hl', put_eq hxn (by omega), e1, rowB_snoc]
          unfold putV
          rw [if_pos ⟨k1, k2⟩]
          simp
        · rcases List.mem_append.1 hn with hn | hn
          · rcases hi with hi | hi
            · subst hi; cases hn
            · exact hi.2.2 n hn
          · simp at hn; subst hn; exact k2
      · right
        refine ⟨.inr true, ?_, .inl rfl⟩
        have hrl : (rowB k.toNat pre).length ≤ 400 := by
          rcases hi with hi | ⟨k0, k1, _⟩
          · subst hi; simp [rowB]
          · rw [rowB_len]
            have hk4 := sz_le k1
            have : pre.length * k.toNat ≤ 100 * 4 := Nat.mul_le_mul (by omega) hk4.2
            omega
        have hput : pack_Put (up (rowB k.toNat pre)) (x : Int) k = some (up (rowB k.toNat pre), 1) := by
          by_cases k0 : k < 0
          · exact put_neg k0 (by omega)
          · obtain ⟨k, rfl⟩ := Int.eq_ofNat_of_zero_le (show 0 ≤ k by omega)
            rw [Int.toNat_natCast] at hok hrl ⊢
            rw [put_eq hxn (by omega)]
            unfold putV
            rw [if_neg (fun q => hok ⟨by omega, q.1, q.2⟩)]
        simp only
        rw [hll, hln, hu, lt_mid, inR_mid, nth_mid, hput]
        simp only [cond_true, Option.bind_some]
        rw [rrow_eq (by rw [up_len]; omega)]
        simp
    · rintro o (rfl | ⟨rfl, hI⟩)
      · rfl
      · simp only [joinX]
        rcases hI with rfl | ⟨k0, k1, k2⟩
        · -- nothing was put
          have ht := takeV_bad (l := []) (k := k)
          refine bind_of (fun o => o = .inl 0) ⟨_, loop_fold ([] : List Nat) (fun _ => ((0 : Int), (0 : Int))) (.inl 0) rfl (fun pre x suf h => by simp at h) rfl (by simp), rfl⟩ ?_
          rintro o rfl
          simp only [joinX]
          have hr0 : rowB k.toNat [] = [] := rfl
          have ht2 := take_eq (l := []) (i := 0) (k := k) (fun _ h => by cases h) (by simp) (by omega) w2
          rw [hr0, ht2]
          simp only [Option.bind_some, cond_true]
          have ht3 : ¬ (takeV [] 0 k).2.2 = 0 := ht
          rw [dT ht3]; rfl
        · obtain ⟨k, rfl⟩ := Int.eq_ofNat_of_zero_le k0
          rw [Int.toNat_natCast] at k1 k2 ⊢
          have hk4 := sz_le k1
          have hB := rowB_bytes k l
          have hBl : (rowB k l).length ≤ 400 := by
            rw [rowB_len]
            have : l.length * k ≤ 100 * 4 := Nat.mul_le_mul (by omega) hk4.2
            omega
          refine bind_of (fun o => o = .inl (((rowB k l).length : Nat) : Int)) ⟨_, loop_fold l (fun pre => ((((rowB k pre).length : Nat) : Int), ((up pre).length : Int))) (.inl (((rowB k l).length : Nat) : Int)) rfl (fun pre x suf hx => ?_) (by simp only; rw [up_len, dF (by omega)]; rfl) (by omega), rfl⟩ ?_
          · have hu : up l = up pre ++ (x : Int) :: up suf := by rw [hx, up_append, up_cons]
            have hl' : (up pre ++ (x : Int) :: up suf).length ≤ 4611686018427387904 := by rw [← hu, up_len]; omega
            have hll : (l.length : Int) = ((up pre ++ (x : Int) :: up suf).length : Int) := by rw [← hu, up_len]
            have hln : l.length = (up pre ++ (x : Int) :: up suf).length := by omega
            have hx2 := k2 x (by rw [hx]; simp)
            have e1 : up (pre ++ [x]) = up pre ++ [(x : Int)] := by rw [up_append]; rfl
            have hR : rowB k l = rowB k pre ++ (beN x k ++ rowB k suf) := by rw [hx]; simp [rowB]
            have hpn : (rowB k pre).length + k ≤ (rowB k l).length := by rw [hR, List.length_append, List.length_append, beN_len]; omega
            have ht : takeV (rowB k l) (((rowB k pre).length : Nat) : Int) (k : Int) = ((x : Int), (((rowB k pre).length : Nat) : Int) + k, 0) := by
              unfold takeV
              rw [if_neg (by rintro (g | g | g) <;> first | exact g (by simpa using k1) | omega), if_neg (by omega), Int.toNat_natCast, Int.toNat_natCast]
              have : ((rowB k l).drop (rowB k pre).length).take k = beN x k := by
                rw [hR, List.drop_left, List.take_left' (beN_len x k)]
              rw [this, val_be k1 hx2]
            simp only
            rw [hll, hln, hu, lt_mid, inR_mid, nth_mid, w_mid hl', take_eq hB (by omega) (by omega) (by omega), ht, e1, rowB_snoc]
            simp only [cond_true, Option.bind_some]
            rw [w64 (n := (((rowB k pre).length : Nat) : Int) + k) (by omega) (by omega)]
            simp [joinX, beN_len]
          · rintro o rfl
            simp only [joinX]
            rw [take_eq hB (by omega) (by omega) (by omega), up_len]
            simp only [Option.bind_some, cond_true]
            rw [dT (takeV_bad (l := rowB k l) (k := (k : Int)))]; simp
  · rw [dT (by omega)]; rfl

theorem text_back (t : Tx) : (t.map UInt8.toNat).map UInt8.ofNat = t := by
  rw [List.map_map]
  have : ∀ x ∈ t, (UInt8.ofNat ∘ UInt8.toNat) x = x := fun x _ => by simp
  rw [List.map_congr_left this]; simp
theorem text_forth {l : List Nat} (h : bytesP l) : (l.map UInt8.ofNat).map UInt8.toNat = l := by
  rw [List.map_map]
  have : ∀ x ∈ l, (UInt8.toNat ∘ UInt8.ofNat) x = x := fun x hx => by
    have := h x hx
    simp only [Function.comp_apply, UInt8.toNat_ofNat']
    omega
  rw [List.map_congr_left this]; simp
theorem tText_at {P S : List Nat} {t : Tx} (ht : t.length < 65536) : tText (P ++ ((beN t.length 2 ++ t.map UInt8.toNat) ++ S)) P.length = some (t, P.length + 2 + t.length) := by
  unfold tText
  have e1 : ((P ++ ((beN t.length 2 ++ t.map UInt8.toNat) ++ S)).drop P.length).take 2 = beN t.length 2 := by
    rw [List.drop_left, List.append_assoc, List.take_left' (beN_len _ 2)]
  have e2 : (P ++ ((beN t.length 2 ++ t.map UInt8.toNat) ++ S)).drop (P.length + 2) = t.map UInt8.toNat ++ S := by
    rw [← List.drop_drop, List.drop_left, List.append_assoc, List.drop_left' (beN_len _ 2)]
  rw [e1, e2, val_be (.inr (.inl rfl)) (by simpa using ht)]
  have hlen : (P ++ ((beN t.length 2 ++ t.map UInt8.toNat) ++ S)).length = P.length + (2 + t.length + S.length) := by simp [beN_len]; omega
  rw [hlen, if_pos (by omega), if_pos (by omega), List.take_left' (by simp), text_back]
theorem tpi_put {A l : List Nat} {pool : List Tx} (hl : l = A ++ pbytes pool) (hp : ∀ t ∈ pool, t.length ≤ 400) : ∀ pre suf, pool = pre ++ suf → tpi l A.length pre.length = some (pre, A.length + (pbytes pre).length) := by
  refine snoc_ind (fun suf _ => by simp [tpi, pbytes]) (fun pre t ih suf h => ?_)
  have h1 := ih ([t] ++ suf) (by rw [h]; simp)
  have ht := hp t (by rw [h]; simp)
  have e : l = (A ++ pbytes pre) ++ ((beN t.length 2 ++ t.map UInt8.toNat) ++ pbytes suf) := by rw [hl, h]; simp [pbytes]
  have h2 : tText l (A.length + (pbytes pre).length) = some (t, A.length + (pbytes pre).length + 2 + t.length) := by
    have := tText_at (P := A ++ pbytes pre) (S := pbytes suf) (t := t) (by omega)
    rw [← e] at this
    simpa using this
  rw [List.length_append, List.length_singleton]
  unfold tpi
  rw [h1]
  simp only
  rw [h2, pbytes_snoc]
  simp [beN_len]; omega
theorem takep_put {b : List Nat} {pool : List Tx} (hp : poolP pool) : tpV (b ++ (beN pool.length 2 ++ pbytes pool)) (b.length : Int) = (pool, ((b ++ (beN pool.length 2 ++ pbytes pool)).length : Int), 0) := by
  unfold tpV
  have hlen : (b ++ (beN pool.length 2 ++ pbytes pool)).length = b.length + (2 + (pbytes pool).length) := by simp [beN_len]
  rw [if_neg (by omega), if_neg (by omega), Int.toNat_natCast]
  have e1 : ((b ++ (beN pool.length 2 ++ pbytes pool)).drop b.length).take 2 = beN pool.length 2 := by
    rw [List.drop_left, List.take_left' (beN_len _ 2)]
  have h500 := hp.1
  rw [e1, val_be (.inr (.inl rfl)) (by simp; omega)]
  have h1 := tpi_put (A := b ++ beN pool.length 2) (l := b ++ (beN pool.length 2 ++ pbytes pool)) (pool := pool) (by simp) hp.2.1 pool [] (by simp)
  rw [List.length_append, beN_len] at h1
  rw [h1]
  simp only
  rw [if_pos hp, hlen]
  simp; omega

theorem spread_gather (l : List Tx) : sprV (gat l).1 (up (gat l).2) = (l, 0) := by
  have hl2 := (gat_len l).2
  have hb := gat_back l
  have hj : ∀ (i j : Nat), (gat l).2[i]? = some j → ∃ h : i < l.length, j < (gat l).1.length ∧ (gat l).1[j]? = some l[i] := fun i j hij => by
    have hi : i < l.length := by rw [← hl2]; exact (List.getElem?_eq_some_iff.1 hij).1
    obtain ⟨j', h1, h2⟩ := hb i hi
    rw [hij] at h1; cases h1
    rw [List.getElem?_eq_getElem hi] at h2
    exact ⟨hi, (List.getElem?_eq_some_iff.1 h2).1, h2⟩
  unfold sprV
  rw [if_pos]
  · congr 1
    apply List.ext_getElem?
    intro i
    rw [List.getElem?_map]
    by_cases hi : i < l.length
    · have hi2 : i < (gat l).2.length := by omega
      obtain ⟨_, h1, h2⟩ := hj i _ (List.getElem?_eq_getElem hi2)
      have : (up (gat l).2)[i]? = some (((gat l).2[i] : Nat) : Int) := by simp [up, List.getElem?_eq_getElem hi2]
      rw [this, List.getElem?_eq_getElem hi]
      simp only [Option.map_some, Option.some.injEq]
      rw [nth_nat h1]
      rw [List.getElem?_eq_getElem h1] at h2
      exact Option.some.inj h2
    · rw [List.getElem?_eq_none (by rw [up_len]; omega), List.getElem?_eq_none (by omega)]; rfl
  · rw [List.all_eq_true]
    intro x hx
    unfold up at hx
    obtain ⟨j, hjm, rfl⟩ := List.mem_map.1 hx
    obtain ⟨i, hi, hij⟩ := List.getElem_of_mem hjm
    obtain ⟨_, h1, _⟩ := hj i j (by rw [List.getElem?_eq_getElem hi, hij])
    unfold okR
    rw [dT (by omega), dT (by omega)]; rfl

theorem Back_true (x : St57) (w : WfSt57 x) : exerguelaw09_PackBack x = some true := by
  obtain ⟨B, N, S, l⟩ := x
  obtain ⟨w1, w2, w3, w4⟩ := w
  have v2 : 0 ≤ N ∧ N < 4294967296 := wf_u32 w2
  have v3 : -9223372036854775808 ≤ S ∧ S < 9223372036854775808 := wf_i64 w3
  clear w2 w3
  simp only at w1 w4
  obtain ⟨b, rfl, hb, hlen⟩ := up_of w1
  obtain ⟨n, rfl⟩ := Int.eq_ofNat_of_zero_le v2.1
  unfold exerguelaw09_PackBack
  simp only
  rw [shown_eq, up_len]
  simp only [Option.bind_some]
  obtain ⟨q, hq, hs⟩ := short_eq w4.1 (texts_wf w4)
  rw [hq]
  cases q with
  | false => rfl
  | true =>
    obtain ⟨s1, s2⟩ := hs rfl
    simp only [Option.bind_some, Bool.not_true, cond_false]
    by_cases h : b.length ≤ 1000
    · rw [dF (show ¬ (b.length : Int) > 1000 by omega)]
      simp only [Option.bind_some, cond_false, joinX]
      -- a number
      obtain ⟨r, hr, hr2⟩ : ∃ r : List Nat × Int, pack_Put (up b) (n : Int) S = some (up r.1, r.2) ∧ ((r.2 = 0 ∧ ∃ k : Nat, S = (k : Int) ∧ sz k ∧ n < 256 ^ k ∧ r.1 = b ++ beN n k) ∨ r.2 = 1) := by
        by_cases hk : S < 0
        · exact ⟨(b, 1), put_neg hk (by omega), .inr rfl⟩
        · obtain ⟨k, rfl⟩ := Int.eq_ofNat_of_zero_le (show 0 ≤ S by omega)
          refine ⟨putV b n k, put_eq (by omega) (by omega), ?_⟩
          unfold putV
          by_cases hc : sz k ∧ n < 256 ^ k
          · rw [if_pos hc]; exact .inl ⟨rfl, k, rfl, hc.1, hc.2, rfl⟩
          · rw [if_neg hc]; exact .inr rfl
      rw [hr]
      simp only [Option.bind_some]
      have hfirst : (Option.bind (bif (decide (r.2 = 0)) then (Option.bind (pack_Take (up r.1) (b.length : Int) S) fun y95 => (Option.bind (bif (decide (¬ y95.2.2 = 0)) then (some true) else (bif (decide (¬ y95.1 = (n : Int))) then (some true) else (bif (decide (¬ y95.2.1 = ((up r.1).length : Int))) then (some true) else (some ((decide (¬ ((up r.1).length : Int) = ((IntKind.wrap .i64 ((b.length : Int) + S)))))))))) fun (s107 : Bool) => (bif s107 then (some (.inr false)) else (some (.inl ()))))) else (some (.inl ())) : Option (Unit ⊕ Bool)) fun z => some z) = some (.inl ()) := by
        rcases hr2 with ⟨h0, k, rfl, hk, hn, hr1⟩ | h1
        · have hk4 := sz_le hk
          have ht : takeV (b ++ beN n k) (b.length : Int) (k : Int) = ((n : Int), (b.length : Int) + k, 0) := by
            unfold takeV
            have hl2 : (b ++ beN n k).length = b.length + k := by simp [beN_len]
            rw [if_neg (by rintro (g | g | g) <;> first | exact g (by simpa using hk) | omega), if_neg (by omega), Int.toNat_natCast, Int.toNat_natCast]
            have : ((b ++ beN n k).drop b.length).take k = beN n k := by
              rw [List.drop_left, List.take_of_length_le (by rw [beN_len]; omega)]
            rw [this, val_be hk hn]
          rw [dT h0, hr1, take_eq (bytes_append hb (beN_bytes n k)) (by simp [beN_len]; omega) (by omega) (by omega), ht, up_len]
          have hl2 : (b ++ beN n k).length = b.length + k := by simp [beN_len]
          rw [hl2]
          simp only [Option.bind_some, cond_true]
          rw [w64 (by omega) (by omega)]
          simp
        · rw [dF (by omega)]; rfl
      have hfirst' : (bif (decide (r.2 = 0)) then (Option.bind (pack_Take (up r.1) (b.length : Int) S) fun y95 => (Option.bind (bif (decide (¬ y95.2.2 = 0)) then (some true) else (bif (decide (¬ y95.1 = (n : Int))) then (some true) else (bif (decide (¬ y95.2.1 = ((up r.1).length : Int))) then (some true) else (some ((decide (¬ ((up r.1).length : Int) = ((IntKind.wrap .i64 ((b.length : Int) + S)))))))))) fun (s107 : Bool) => (bif s107 then (some (.inr false)) else (some (.inl ()))))) else (some (.inl ())) : Option (Unit ⊕ Bool)) = some (.inl ()) := by
        have e : ∀ o : Option (Unit ⊕ Bool), Option.bind o (fun z => some z) = o := fun o => by cases o <;> rfl
        exact (e _).symm.trans hfirst
      rw [hfirst']
      simp only [Option.bind_some]
      have hg := gat_len l
      have hnd := gat_nodup l
      rw [gather_eq (by omega)]
      simp only [Option.bind_some]
      rw [spread_eq (by rw [up_len]; omega), spread_gather]
      simp only [Option.bind_some]
      rw [rtexts_eq (by omega)]
      simp only [not_true_eq_false, decide_false, decide_true, cond_false, Option.bind_some, Bool.not_true]
      rw [dF (show ¬ (((gat l).1.length : Nat) : Int) > (l.length : Int) by omega)]
      simp only [cond_false, Option.bind_some]
      generalize hpool : (gat l).1 = pool at hg hnd
      refine bind_of (fun o => o = .inl ()) ⟨_, loop_fold pool (fun pre => (pre.length : Int)) (.inl ()) rfl (fun pre x suf hx => ?_) (by rw [lt_end]; rfl) (by omega), rfl⟩ ?_
      · have hl' : (pre ++ x :: suf).length ≤ 4611686018427387904 := by rw [← hx]; omega
        have hnx : ¬ x ∈ pre := fun hm => by
          rw [hx] at hnd
          simp only [List.nodup_append] at hnd
          exact hnd.2.2 x hm x (by simp) rfl
        rw [rat_eq (by omega), hx, lt_mid, inR_mid, nth_mid, w_mid hl']
        have : posI (pre ++ x :: suf) x = (pre.length : Int) := by
          unfold posI
          rw [posOf_mid (posOf_none.2 hnx)]
        rw [this]
        simp
      · rintro o rfl
        simp only [joinX]
        rw [putp_eq (by omega) (by omega)]
        unfold putPV
        by_cases hp : poolP pool
        · rw [if_pos hp]
          simp only [Option.bind_some, not_true_eq_false, decide_false, cond_false]
          have hpb := pbytes_len hp.2.1
          have h500 := hp.1
          have hyb : bytesP (b ++ (beN pool.length 2 ++ pbytes pool)) := bytes_append hb (bytes_append (beN_bytes _ _) (pbytes_bytes _))
          have hyl : (b ++ (beN pool.length 2 ++ pbytes pool)).length = b.length + (2 + (pbytes pool).length) := by simp [beN_len]
          rw [takep_eq hyb (by omega) (by omega), takep_put hp, up_len]
          simp only [Option.bind_some, cond_true]
          rw [rtexts_eq (by omega)]
          simp
        · rw [if_neg hp]
          have h10 : ¬ (1 : Int) = 0 := by decide
          rw [rpool_eq (by omega), dF hp]
          simp only [Option.bind_some, cond_true]
          rw [dT h10, rrow_eq (by rw [up_len]; omega)]
          by_cases h5 : (pool.length : Int) > 500 <;> simp [h5]
    · rw [dT (show (b.length : Int) > 1000 by omega)]; rfl

theorem tText_bytes {l : List Nat} (hb : bytesP l) {i j : Nat} {t : Tx} (h : tText l i = some (t, j)) : (l.drop i).take (j - i) = beN t.length 2 ++ t.map UInt8.toNat := by
  unfold tText at h
  split at h
  · rename_i h1
    split at h
    · rename_i h2
      simp only [Option.some.injEq, Prod.mk.injEq] at h
      obtain ⟨ht, hj⟩ := h
      have hl2 : ((l.drop i).take 2).length = 2 := by simp; omega
      have hbe := be_val (bytes_take (bytes_drop hb i) 2) (by rw [hl2]; exact .inr (.inl rfl))
      rw [hl2] at hbe
      generalize hn : valN ((l.drop i).take 2) = n at *
      have htl : t.length = n := by rw [← ht]; simp; omega
      rw [htl, hbe, ← ht, text_forth (bytes_take (bytes_drop hb _) _)]
      have e : j - i = 2 + n := by omega
      rw [e, List.take_add, List.drop_drop]
    · cases h
  · cases h
theorem tpi_bytes {l : List Nat} (hb : bytesP l) {i0 : Nat} (h0 : i0 ≤ l.length) : ∀ (m : Nat) {p : List Tx} {i : Nat}, tpi l i0 m = some (p, i) → (l.drop i0).take (i - i0) = pbytes p
  | 0, p, i, h => by cases h; simp [pbytes]
  | m + 1, p, i, h => by
    unfold tpi at h
    split at h
    · rename_i p' i' h1
      split at h
      · rename_i t j h2
        simp only [Option.some.injEq, Prod.mk.injEq] at h
        obtain ⟨hp, rfl⟩ := h
        have ih := tpi_bytes hb h0 m h1
        have hf := tpi_facts h0 m h1
        have ht := tText_le h2
        have hx := tText_bytes hb h2
        have e : j - i0 = (i' - i0) + (j - i') := by omega
        rw [e, List.take_add, ih, List.drop_drop, show i0 + (i' - i0) = i' by omega, hx, ← hp, pbytes_snoc]
      · cases h
    · cases h
theorem cut_nat {l : List Nat} {i j : Nat} (h : i ≤ j) : cut (up l) (i : Int) (j : Int) = up ((l.drop i).take (j - i)) := by
  rw [cut_up, List.drop_take]

theorem Taken_true (b : List Int) (w1 : WfL (WfI .u8) b) (i : Int) (w2 : WfI .i64 i) (k : Int) (w3 : WfI .i64 k) : exerguelaw09_PackTaken b i k = some true := by
  obtain ⟨b, rfl, hb, hlen⟩ := up_of w1
  have w2 := wf_i64 w2
  have w3 := wf_i64 w3
  unfold exerguelaw09_PackTaken
  rw [shown_eq, up_len]
  simp only [Option.bind_some]
  by_cases h : b.length ≤ 20000
  · rw [dF (show ¬ (b.length : Int) > 20000 by omega), take_eq hb (by omega) w2 w3]
    simp only [Option.bind_some, cond_false]
    refine bind_of (fun o => o = .inl ()) ⟨.inl (), ?_, rfl⟩ ?_
    · unfold takeV
      by_cases c1 : ¬ sz k.toNat ∨ k < 0 ∨ i < 0
      · rw [if_pos c1]; rfl
      · rw [if_neg c1]
        by_cases c2 : i + k > b.length
        · rw [if_pos c2]; rfl
        · rw [if_neg c2]
          have hs : sz k.toNat := Decidable.byContradiction fun q => c1 (.inl q)
          have hk0 : 0 ≤ k := by omega
          have hi0 : 0 ≤ i := by omega
          obtain ⟨k, rfl⟩ := Int.eq_ofNat_of_zero_le hk0
          obtain ⟨i, rfl⟩ := Int.eq_ofNat_of_zero_le hi0
          rw [Int.toNat_natCast] at hs ⊢
          rw [Int.toNat_natCast]
          have hk4 := sz_le hs
          have hsl : ((b.drop i).take k).length = k := by simp; omega
          have hlt := valN_lt (bytes_take (bytes_drop hb i) k)
          have hbv := be_val (bytes_take (bytes_drop hb i) k) (by rw [hsl]; exact hs)
          rw [hsl] at hlt hbv
          have hp := sz_pow hs
          have hput : pack_Put ([] : List Int) ((valN ((b.drop i).take k) : Nat) : Int) (k : Int) = some (up ((b.drop i).take k), 0) := by
            have := put_eq (l := []) (n := valN ((b.drop i).take k)) (k := k) (by omega) (by simp)
            unfold putV at this
            rw [if_pos ⟨hs, hlt⟩, List.nil_append, hbv] at this
            exact this
          rw [hput]
          simp only [Option.bind_some, not_true_eq_false, decide_false, decide_true, cond_false, cond_true]
          rw [w64 (by omega) (by omega), dF (show ¬ ¬ (i : Int) + k = (i : Int) + k by simp), dF (show ¬ (i : Int) + k > (b.length : Int) by omega), inS_of (by omega) (by omega) (by omega)]
          have e : (i : Int) + k = ((i + k : Nat) : Int) := by omega
          rw [e, cut_nat (by omega), show i + k - i = k by omega, rrow_eq (by rw [up_len]; omega)]
          simp
    · rintro o rfl
      simp only [joinX]
      rw [takep_eq hb (by omega) w2]
      unfold tpV
      by_cases c1 : i < 0
      · rw [if_pos c1]; rfl
      · rw [if_neg c1]
        by_cases c2 : i + 2 > b.length
        · rw [if_pos c2]; rfl
        · rw [if_neg c2]
          obtain ⟨i, rfl⟩ := Int.eq_ofNat_of_zero_le (show 0 ≤ i by omega)
          rw [Int.toNat_natCast]
          have h2l : ((b.drop i).take 2).length = 2 := by simp; omega
          have hbv := be_val (bytes_take (bytes_drop hb i) 2) (by rw [h2l]; exact .inr (.inl rfl))
          rw [h2l] at hbv
          cases ht : tpi b (i + 2) (valN ((b.drop i).take 2)) with
          | none => rfl
          | some pj =>
            obtain ⟨p, j⟩ := pj
            simp only
            have hf := tpi_facts (l := b) (i0 := i + 2) (by omega) _ ht
            have hby := tpi_bytes hb (i0 := i + 2) (by omega) _ ht
            by_cases hp : poolP p
            · rw [if_pos hp]
              simp only [Option.bind_some, not_true_eq_false, decide_false, cond_false]
              have hput : pack_PutPool ([] : List Int) p = some (up (beN p.length 2 ++ pbytes p), 0) := by
                have := putp_eq (b := []) (l := p) (by simp) (by have := hp.1; omega)
                unfold putPV at this
                rw [if_pos hp] at this
                exact this
              have hseg : (b.drop i).take (j - i) = beN p.length 2 ++ pbytes p := by
                have e : j - i = 2 + (j - (i + 2)) := by omega
                rw [e, List.take_add, List.drop_drop, hby, hf.2.1, hbv]
              have hpb := pbytes_len hp.2.1
              have h500 := hp.1
              rw [hput]
              simp only [Option.bind_some, cond_true, decide_true]
              rw [dT (show (j : Int) ≥ (i : Int) by omega), dT (show (j : Int) ≤ (b.length : Int) by omega), inS_of (by omega) (by omega) (by omega), cut_nat (by omega), hseg, rrow_eq (by rw [up_len]; simp [beN_len]; omega)]
              simp
            · rw [if_neg hp]; rfl
  · rw [dT (show (b.length : Int) > 20000 by omega)]; rfl

set_option maxRecDepth 100000 in
theorem PackTaken_lifted (os : Os) (started : os.Started) (H : Type) (enc : TypeId × Value → H) :
    ReturnsInHanded {} Try.checked os 8 .any (Rows.packTakenSpec.pre6 enc Try.prog Try.f8 Rows.packTakenRow.domain false) (Rows.packTakenSpec.post enc Try.prog Try.f8 false true false false) := by
  refine returnsInHanded_of_change_sized (C := Try.checked) Try.own started (by kernel_rfl) Try.func8
    (ChangeSpec.witness6 (enc := enc) (C := Try.checked) false ⟨#[], #[.slice none 0 0, .int .i64 0, .int .i64 0], []⟩ 8 (by kernel_rfl) (by kernel_rfl) (by kernel_rfl) (by kernel_rfl)) ?_
  intro W base args ds gs before hval0 hW _ hsz0 _
  have hsz : (DataW.weightsEach Try.prog (Try.f8.params.toList ++ Rows.packTakenSpec.plain.varTypes Try.prog) (ds ++ gs)).all (· ≤ reachBytes) = true := hsz0
  clear hsz0
  refine law_post (P := Try.prog) (n := 2) (tb := 4) Try.laidOut Try.underlying4 rfl rfl (by kernel_rfl) (fun h => ?_) hval0 hW ?_
  · rw [Try.params8] at h
    obtain ⟨d0, d1, d2, rfl⟩ := l3 h
    exact ⟨rfl, rfl, rfl⟩
  · intro ss hg hl1 hl2 hs
    subst hg
    rw [Try.params8] at hl1 hl2 hs hsz
    obtain ⟨d0, d1, d2, rfl⟩ := l3 hl1
    obtain ⟨s0, s1, s2, rfl⟩ := l3 hl2
    obtain ⟨a0, e0, w0⟩ := (show Tells Try.prog 2 22 (encL (encI .u8) 1) (WfL (WfI .u8)) from (tells_list (enc := (encI .u8)) (Wf := (WfI .u8)) Try.underlying22 (k := 1) (by kernel_rfl) (by kernel_rfl) (tells_int Try.underlying5))) _ _ (showsV_scalar Try.underlying22 (fun _ => by simp) (fun _ _ => by simp) (hs 0 22 _ _ rfl rfl rfl)) (sized_param hsz (j := 0) rfl rfl)
    obtain rfl : s0 = lsv (encI .u8) 1 a0 := (List.cons.inj e0).1
    obtain ⟨a1, e1, w1⟩ := (show Tells Try.prog 2 3 (encI .i64) (WfI .i64) from (tells_int Try.underlying3)) _ _ (showsV_scalar Try.underlying3 (fun _ => by simp) (fun _ _ => by simp) (hs 1 3 _ _ rfl rfl rfl)) (sized_param hsz (j := 1) rfl rfl)
    obtain rfl : s1 = .int .i64 a1 := (List.cons.inj e1).1
    obtain ⟨a2, e2, w2⟩ := (show Tells Try.prog 2 3 (encI .i64) (WfI .i64) from (tells_int Try.underlying3)) _ _ (showsV_scalar Try.underlying3 (fun _ => by simp) (fun _ _ => by simp) (hs 2 3 _ _ rfl rfl rfl)) (sized_param hsz (j := 2) rfl rfl)
    obtain rfl : s2 = .int .i64 a2 := (List.cons.inj e2).1
    exact ⟨[], exerguelaw09_PackTaken_ok (Taken_true a0 w0 a1 w1 a2 w2)⟩
theorem PackTaken_holds : Rows.PackTakenSaid :=
  OpenClaim.holds_of_wide 8 Try.f8 rfl rfl rfl rfl rfl rfl rfl ⟨rfl, rfl, rfl, rfl, rfl⟩ rfl rfl rfl rfl rfl (by kernel_rfl) Try.func8 (by kernel_rfl)
    (of_decide_eq_true (by kernel_rfl)) (by unfold Func.isWrapper; first | (rw [if_pos (by decide +kernel)]; kernel_rfl) | (rw [if_neg (by decide +kernel)]; exact ⟨rfl, rfl⟩))
    (fun os started H enc _ => PackTaken_lifted os started H enc)

end Go.Proofs.Ytdeaonfclkffnaa
