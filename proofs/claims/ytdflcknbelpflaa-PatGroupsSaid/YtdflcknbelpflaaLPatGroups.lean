/-
  The statement PatGroups is proved: at every input the law answers true, and its input reads as it did. No conditions.
-/
import Derived.Test.YtdflcknbelpflaaP
import Derived.Test.YtdflcknbelpflaaRows
import Derived.ProofKit
import Derived.SizedLaws
namespace Go.Proofs.Ytdflcknbelpflaa
open Go Go.Sy Go.RowKit Go.ChangeShapes Go.WideShapes Go.ChangeAt
set_option linter.unusedVariables false
set_option linter.unusedSimpArgs false
set_option maxRecDepth 100000
set_option maxHeartbeats 4000000

theorem glob_none {w : World} {K : Nat → Nat} {D : DM} : GlobOk w K D := fun g cs h => by
  have h2 : (none : Option (List SV)) = some cs := h
  cases h2
theorem Try.own : ownKnob Try.prog.godebug = none := by kernel_rfl
theorem Try.laidOut : laidOutB Try.prog = true := by kernel_rfl

theorem listN2 {α : Type} {l : List α} (h : l.length = 2) : ∃ a0 a1, l = [a0, a1] := by
  match l, h with
  | [a0, a1], _ => exact ⟨a0, a1, rfl⟩
theorem listN17 {α : Type} {l : List α} (h : l.length = 17) : ∃ a0 a1 a2 a3 a4 a5 a6 a7 a8 a9 a10 a11 a12 a13 a14 a15 a16, l = [a0, a1, a2, a3, a4, a5, a6, a7, a8, a9, a10, a11, a12, a13, a14, a15, a16] := by
  match l, h with
  | [a0, a1, a2, a3, a4, a5, a6, a7, a8, a9, a10, a11, a12, a13, a14, a15, a16], _ => exact ⟨a0, a1, a2, a3, a4, a5, a6, a7, a8, a9, a10, a11, a12, a13, a14, a15, a16, rfl⟩
/-- Its numbers are numbers of their kinds, its lists no longer than memory. -/
def WfSt33 (x : St33) : Prop := (WfI .i64) x.Kind_ ∧ (WfI .i32) x.R_
theorem tells_T34 {n : Nat} : Tells Try.prog (n + 2) 34 encSt33 WfSt33 := fun d cs h hs => by
  have hl : cs.length = 2 := (shows_len Try.underlying34 h).trans (by kernel_rfl)
  obtain ⟨c0, c1, rfl⟩ := listN2 hl
  obtain ⟨p0, h0, z0⟩ := shows_field Try.underlying34 h hs 0 3 [c0] (by kernel_rfl)
  obtain ⟨x0, e0, w0⟩ : ∃ x : Int, [c0] = (encI .i64) x ∧ (WfI .i64) x := (tells_int Try.underlying3) p0 _ h0 z0
  obtain ⟨p1, h1, z1⟩ := shows_field Try.underlying34 h hs 1 21 [c1] (by kernel_rfl)
  obtain ⟨x1, e1, w1⟩ : ∃ x : Int, [c1] = (encI .i32) x ∧ (WfI .i32) x := (tells_int Try.underlying21) p1 _ h1 z1
  refine ⟨⟨x0, x1⟩, ?_, ⟨w0, w1⟩⟩
  show [c0] ++ [c1] = ((encI .i64) x0 ++ (encI .i32) x1)
  rw [e0, e1]
/-- Its numbers are numbers of their kinds, its lists no longer than memory. -/
def WfSt23 (x : St23) : Prop := (WfL WfSt33) x.Pre_ ∧ (WfL WfSt33) x.Suf_ ∧ (WfL WfSt33) x.NPre_ ∧ (WfL WfSt33) x.NSuf_ ∧ WfB x.Neg_ ∧ (WfI .i64) x.Hash_ ∧ (WfI .i64) x.MinInt_ ∧ (WfI .i64) x.MinFrac_ ∧ (WfI .i64) x.MaxFrac_ ∧ (WfI .i64) x.G1_ ∧ (WfI .i64) x.G2_ ∧ (WfI .i64) x.MinSig_ ∧ (WfI .i64) x.MaxSig_ ∧ (WfI .i64) x.Exp_ ∧ WfB x.ExpPlus_ ∧ (WfI .i32) x.Pad_ ∧ (WfI .i64) x.PadAt_
theorem tells_T24 {n : Nat} : Tells Try.prog (n + 4) 24 encSt23 WfSt23 := fun d cs h hs => by
  have hl : cs.length = 17 := (shows_len Try.underlying24 h).trans (by kernel_rfl)
  obtain ⟨c0, c1, c2, c3, c4, c5, c6, c7, c8, c9, c10, c11, c12, c13, c14, c15, c16, rfl⟩ := listN17 hl
  obtain ⟨p0, h0, z0⟩ := shows_field Try.underlying24 h hs 0 22 [c0] (by kernel_rfl)
  obtain ⟨x0, e0, w0⟩ : ∃ x : List St33, [c0] = (encL encSt33 2) x ∧ (WfL WfSt33) x := (tells_list (enc := encSt33) (Wf := WfSt33) Try.underlying22 (k := 2) (by kernel_rfl) (by kernel_rfl) tells_T34) p0 _ h0 z0
  obtain ⟨p1, h1, z1⟩ := shows_field Try.underlying24 h hs 1 22 [c1] (by kernel_rfl)
  obtain ⟨x1, e1, w1⟩ : ∃ x : List St33, [c1] = (encL encSt33 2) x ∧ (WfL WfSt33) x := (tells_list (enc := encSt33) (Wf := WfSt33) Try.underlying22 (k := 2) (by kernel_rfl) (by kernel_rfl) tells_T34) p1 _ h1 z1
  obtain ⟨p2, h2, z2⟩ := shows_field Try.underlying24 h hs 2 22 [c2] (by kernel_rfl)
  obtain ⟨x2, e2, w2⟩ : ∃ x : List St33, [c2] = (encL encSt33 2) x ∧ (WfL WfSt33) x := (tells_list (enc := encSt33) (Wf := WfSt33) Try.underlying22 (k := 2) (by kernel_rfl) (by kernel_rfl) tells_T34) p2 _ h2 z2
  obtain ⟨p3, h3, z3⟩ := shows_field Try.underlying24 h hs 3 22 [c3] (by kernel_rfl)
  obtain ⟨x3, e3, w3⟩ : ∃ x : List St33, [c3] = (encL encSt33 2) x ∧ (WfL WfSt33) x := (tells_list (enc := encSt33) (Wf := WfSt33) Try.underlying22 (k := 2) (by kernel_rfl) (by kernel_rfl) tells_T34) p3 _ h3 z3
  obtain ⟨p4, h4, z4⟩ := shows_field Try.underlying24 h hs 4 4 [c4] (by kernel_rfl)
  obtain ⟨x4, e4, w4⟩ : ∃ x : Bool, [c4] = encB x ∧ WfB x := (tells_bool Try.underlying4) p4 _ h4 z4
  obtain ⟨p5, h5, z5⟩ := shows_field Try.underlying24 h hs 5 3 [c5] (by kernel_rfl)
  obtain ⟨x5, e5, w5⟩ : ∃ x : Int, [c5] = (encI .i64) x ∧ (WfI .i64) x := (tells_int Try.underlying3) p5 _ h5 z5
  obtain ⟨p6, h6, z6⟩ := shows_field Try.underlying24 h hs 6 3 [c6] (by kernel_rfl)
  obtain ⟨x6, e6, w6⟩ : ∃ x : Int, [c6] = (encI .i64) x ∧ (WfI .i64) x := (tells_int Try.underlying3) p6 _ h6 z6
  obtain ⟨p7, h7, z7⟩ := shows_field Try.underlying24 h hs 7 3 [c7] (by kernel_rfl)
  obtain ⟨x7, e7, w7⟩ : ∃ x : Int, [c7] = (encI .i64) x ∧ (WfI .i64) x := (tells_int Try.underlying3) p7 _ h7 z7
  obtain ⟨p8, h8, z8⟩ := shows_field Try.underlying24 h hs 8 3 [c8] (by kernel_rfl)
  obtain ⟨x8, e8, w8⟩ : ∃ x : Int, [c8] = (encI .i64) x ∧ (WfI .i64) x := (tells_int Try.underlying3) p8 _ h8 z8
  obtain ⟨p9, h9, z9⟩ := shows_field Try.underlying24 h hs 9 3 [c9] (by kernel_rfl)
  obtain ⟨x9, e9, w9⟩ : ∃ x : Int, [c9] = (encI .i64) x ∧ (WfI .i64) x := (tells_int Try.underlying3) p9 _ h9 z9
  obtain ⟨p10, h10, z10⟩ := shows_field Try.underlying24 h hs 10 3 [c10] (by kernel_rfl)
  obtain ⟨x10, e10, w10⟩ : ∃ x : Int, [c10] = (encI .i64) x ∧ (WfI .i64) x := (tells_int Try.underlying3) p10 _ h10 z10
  obtain ⟨p11, h11, z11⟩ := shows_field Try.underlying24 h hs 11 3 [c11] (by kernel_rfl)
  obtain ⟨x11, e11, w11⟩ : ∃ x : Int, [c11] = (encI .i64) x ∧ (WfI .i64) x := (tells_int Try.underlying3) p11 _ h11 z11
  obtain ⟨p12, h12, z12⟩ := shows_field Try.underlying24 h hs 12 3 [c12] (by kernel_rfl)
  obtain ⟨x12, e12, w12⟩ : ∃ x : Int, [c12] = (encI .i64) x ∧ (WfI .i64) x := (tells_int Try.underlying3) p12 _ h12 z12
  obtain ⟨p13, h13, z13⟩ := shows_field Try.underlying24 h hs 13 3 [c13] (by kernel_rfl)
  obtain ⟨x13, e13, w13⟩ : ∃ x : Int, [c13] = (encI .i64) x ∧ (WfI .i64) x := (tells_int Try.underlying3) p13 _ h13 z13
  obtain ⟨p14, h14, z14⟩ := shows_field Try.underlying24 h hs 14 4 [c14] (by kernel_rfl)
  obtain ⟨x14, e14, w14⟩ : ∃ x : Bool, [c14] = encB x ∧ WfB x := (tells_bool Try.underlying4) p14 _ h14 z14
  obtain ⟨p15, h15, z15⟩ := shows_field Try.underlying24 h hs 15 21 [c15] (by kernel_rfl)
  obtain ⟨x15, e15, w15⟩ : ∃ x : Int, [c15] = (encI .i32) x ∧ (WfI .i32) x := (tells_int Try.underlying21) p15 _ h15 z15
  obtain ⟨p16, h16, z16⟩ := shows_field Try.underlying24 h hs 16 3 [c16] (by kernel_rfl)
  obtain ⟨x16, e16, w16⟩ : ∃ x : Int, [c16] = (encI .i64) x ∧ (WfI .i64) x := (tells_int Try.underlying3) p16 _ h16 z16
  refine ⟨⟨x0, x1, x2, x3, x4, x5, x6, x7, x8, x9, x10, x11, x12, x13, x14, x15, x16⟩, ?_, ⟨w0, w1, w2, w3, w4, w5, w6, w7, w8, w9, w10, w11, w12, w13, w14, w15, w16⟩⟩
  show [c0] ++ [c1] ++ [c2] ++ [c3] ++ [c4] ++ [c5] ++ [c6] ++ [c7] ++ [c8] ++ [c9] ++ [c10] ++ [c11] ++ [c12] ++ [c13] ++ [c14] ++ [c15] ++ [c16] = ((encL encSt33 2) x0 ++ (encL encSt33 2) x1 ++ (encL encSt33 2) x2 ++ (encL encSt33 2) x3 ++ encB x4 ++ (encI .i64) x5 ++ (encI .i64) x6 ++ (encI .i64) x7 ++ (encI .i64) x8 ++ (encI .i64) x9 ++ (encI .i64) x10 ++ (encI .i64) x11 ++ (encI .i64) x12 ++ (encI .i64) x13 ++ encB x14 ++ (encI .i32) x15 ++ (encI .i64) x16)
  rw [e0, e1, e2, e3, e4, e5, e6, e7, e8, e9, e10, e11, e12, e13, e14, e15, e16]
theorem shown_eq : exerguelaw10_shown = some true := by kernel_rfl
theorem byteAt {l : List Int} (h : asc l) {k : Nat} (hk : k < l.length) : ((((bytesS l).getD ((k : Int)).toNat 0).toNat : Nat) : Int) = l[k] := by
  have h1 := h _ (List.getElem_mem hk)
  rw [List.getD_eq_getElem?_getD, Int.toNat_natCast]
  unfold bytesS
  rw [List.getElem?_map, List.getElem?_eq_getElem hk]
  simp only [Option.map_some, Option.getD_some]
  generalize l[k] = c at h1
  have h2 : c.toNat < 128 := by omega
  have h3 : (UInt8.ofNat c.toNat).toNat = c.toNat := by simp; omega
  rw [h3]; omega
theorem bytesS_len (l : List Int) : (bytesS l).length = l.length := by simp [bytesS]
theorem no44_fr (p : St23) : ∀ c ∈ frL p ++ exL p, c ≠ 44 := by
  intro c hc
  rcases List.mem_append.1 hc with h | h
  · unfold frL at h
    split at h
    · simp at h
    · rcases List.mem_cons.1 h with h | h
      · omega
      · rcases List.mem_append.1 h with h | h <;> (have := List.eq_of_mem_replicate h; omega)
  · unfold exL at h
    split at h
    · simp at h
    · rcases List.mem_cons.1 h with h | h
      · omega
      · rcases List.mem_append.1 h with h | h
        · split at h
          · simp at h; omega
          · simp at h
        · have := List.eq_of_mem_replicate h; omega
theorem plcs_ge (g1 g2 : Int) (t ha : Nat) : ∀ n, n ≤ (plcs g1 g2 t ha n).length
  | 0 => by simp
  | n + 1 => by
    rw [plcs_succ, List.length_append]
    have := plcs_ge g1 g2 t ha n
    have : 1 ≤ (plc g1 g2 t ha n).length := by unfold plc; simp
    omega
theorem plcs_pre (g1 g2 : Int) (t ha : Nat) {i : Nat} : ∀ {n : Nat}, i < n → ∃ r, plcs g1 g2 t ha n = plcs g1 g2 t ha i ++ (plc g1 g2 t ha i ++ r)
  | 0, h => by omega
  | n + 1, h => by
    by_cases hi : i = n
    · subst hi; exact ⟨[], by rw [plcs_succ]; simp⟩
    · obtain ⟨r, hr⟩ := plcs_pre g1 g2 t ha (i := i) (n := n) (by omega)
      exact ⟨r ++ plc g1 g2 t ha n, by rw [plcs_succ, hr]; simp⟩
theorem get_mid {a b : List Int} {c : Int} (h : a.length < (a ++ c :: b).length) : (a ++ c :: b)[a.length] = c := by simp
theorem Groups_true (a : St23) (w : WfSt23 a) : exerguelaw10_PatGroups a = some true := by
  obtain ⟨w1, w2, w3, w4, _⟩ := w
  unfold exerguelaw10_PatGroups
  rw [shown_eq, few_eq w1.1 w2.1 w3.1 w4.1]
  simp only [Option.bind_some]
  by_cases hf : a.Pre_.length + a.Suf_.length + a.NPre_.length + a.NSuf_.length ≤ 300
  · rw [dT hf]
    simp only [Bool.not_true, cond_false]
    obtain ⟨b, hb, hr⟩ := pright_tot (p := a) (by omega) (by omega) (by omega) (by omega)
    rw [hb]
    simp only [Option.bind_some]
    cases b with
    | false => rfl
    | true =>
      simp only [Bool.not_true, cond_false, Option.bind_some]
      by_cases hs : a.MinSig_ > 0
      · rw [dT hs]; rfl
      · rw [dF hs]
        simp only [cond_false, joinX]
        obtain ⟨hc, hn, _⟩ := hr rfl
        rw [numText_eq hc hn]
        simp only [Option.bind_some, cond_true]
        have hnl := (number_eq hc hn).2
        have hasc := asc_num a
        have hc0 := hc
        obtain ⟨⟨a1, a2⟩, ⟨b1, b2⟩, _, _, e1, f1, ⟨g1, g2⟩, _⟩ := hc0
        obtain ⟨n1, n2, n3, n4, n5, n6, n7, n8, n9, n10, n11⟩ := hn
        obtain ⟨t, ht⟩ : ∃ t : Nat, a.Hash_ + a.MinInt_ = t := ⟨(a.Hash_ + a.MinInt_).toNat, by omega⟩
        obtain ⟨ha, hha⟩ : ∃ t : Nat, a.Hash_ = t := ⟨a.Hash_.toNat, by omega⟩
        have hS : numL a = plcs a.G1_ a.G2_ t ha t ++ (frL a ++ exL a) := by
          unfold numL
          rw [if_neg (by omega)]
          unfold plL
          rw [ht, hha, show ((t : Nat) : Int).toNat = t by omega, show ((ha : Nat) : Int).toNat = ha by omega, List.append_assoc]
        have hno := no44_fr a
        have hge := plcs_ge a.G1_ a.G2_ t ha t
        rw [w64 (n := a.Hash_ + a.MinInt_) (by omega) (by omega), bytesS_len, ht, hha]
        generalize hSS : numL a = S at hS hnl hasc
        generalize frL a ++ exL a = Q at hS hno
        generalize hG1 : a.G1_ = G1 at *
        generalize hG2 : a.G2_ = G2 at *
        generalize hst : (fun (s800 : Int × Int) => ((Option.bind (Option.bind (bif (decide (s800.2 < (S.length : Int))) then (some ((decide (s800.1 ≤ (t : Int))))) else (some false)) fun (s1304 : Bool) => (bif s1304 then (some (.inl ())) else (some (.inr (.inr (.inl s800.1)))))) (joinX fun (s1296 : Unit) => (Option.bind (bif inR s800.2 S.length then (Option.bind (bif (decide ((((((bytesS S).getD (s800.2 : Int).toNat 0).toNat : Nat) : Int)) = 35)) then (some true) else (some ((decide ((((((bytesS S).getD (s800.2 : Int).toNat 0).toNat : Nat) : Int)) = 48))))) fun (s1424 : Bool) => (bif s1424 then (Option.bind (Option.bind (bif (decide (s800.1 < (t : Int))) then (bif inR s800.2 S.length then (some ((((decide ((((((bytesS S).getD (s800.2 : Int).toNat 0).toNat : Nat) : Int)) = 48))) != (decide (s800.1 ≥ (ha : Int)))))) else none) else (some false)) fun (s1465 : Bool) => (bif s1465 then (some (.inr (.inr (.inr (.inr false))))) else (some (.inl ())))) (joinX fun (s1456 : Unit) => (some (.inl (IntKind.wrap .i64 (s800.1 + 1)))))) else (bif (decide ((((((bytesS S).getD (s800.2 : Int).toNat 0).toNat : Nat) : Int)) = 44)) then (Option.bind (bif (decide (G1 = 0)) then (some true) else (bif (decide (((IntKind.wrap .i64 ((t : Int) - s800.1))) < G1)) then (some true) else (bif nz G2 then (bif (decide (¬ ((Int.tmod ((IntKind.wrap .i64 (((IntKind.wrap .i64 ((t : Int) - s800.1))) - G1))) G2)) = 0)) then (some true) else (some (decide (s800.1 = 0)))) else none))) fun (s1495 : Bool) => (bif s1495 then (some (.inr (.inr (.inr false)))) else (some (.inl s800.1)))) else (some (.inl s800.1))))) else none) (joinX fun (s1415 : Int) => (some (.inl (s1415, (IntKind.wrap .i64 (s800.2 + 1))))))))) : Option ((Int × Int) ⊕ (Int ⊕ Bool)))) = step
        have s_end : ∀ i k : Int, (k ≥ S.length ∨ i > t) → step (i, k) = some (.inr (.inl i)) := by
          intro i k h
          subst hst
          simp only
          by_cases h1 : k < (S.length : Int)
          · rw [dT h1, dF (show ¬ i ≤ (t : Int) by omega)]; rfl
          · rw [dF h1]; rfl
        have s_dig : ∀ (i k : Nat) (hk : k < S.length), (S[k] = 35 ∨ S[k] = 48) → i ≤ t → (i < t → (S[k] = 48 ↔ ha ≤ i)) → step ((i : Int), (k : Int)) = some (.inl ((i : Int) + 1, (k : Int) + 1)) := by
          intro i k hk hd hi hq
          subst hst
          simp only
          rw [dT (show (k : Int) < (S.length : Int) by omega), dT (show (i : Int) ≤ (t : Int) by omega), inR_nat hk, byteAt hasc hk, w64 (n := (i : Int) + 1) (by omega) (by omega), w64 (n := (k : Int) + 1) (by omega) (by omega)]
          simp only [cond_true, Option.bind_some, joinX]
          by_cases hlt : i < t
          · have h3 := hq hlt
            have h4 : ((decide (S[k] = 48)) != (decide ((i : Int) ≥ (ha : Int)))) = false := by
              by_cases h5 : ha ≤ i
              · rw [dT (h3.2 h5), dT (by omega)]; rfl
              · rw [dF (fun h => h5 (h3.1 h)), dF (by omega)]; rfl
            rw [dT (show (i : Int) < (t : Int) by omega), h4]
            rcases hd with h | h <;> rw [h] <;> rfl
          · rw [dF (show ¬ (i : Int) < (t : Int) by omega)]
            rcases hd with h | h <;> rw [h] <;> rfl
        have s_com : ∀ (i k : Nat) (hk : k < S.length), S[k] = 44 → 0 < i → i < t → grpB G1 G2 ((t : Int) - i) = true → step ((i : Int), (k : Int)) = some (.inl ((i : Int), (k : Int) + 1)) := by
          intro i k hk hd hi hit hg
          unfold grpB at hg
          simp only [Bool.and_eq_true, Bool.or_eq_true, decide_eq_true_eq] at hg
          obtain ⟨h1, h2, h3⟩ := hg
          have hg2 : 0 < G2 := by rcases n11 with ⟨h, _⟩ | ⟨_, h, _⟩ <;> omega
          have hm : (((t : Int) - i) - G1) % G2 = 0 := by
            rcases h3 with h3 | ⟨_, h3⟩
            · rw [show ((t : Int) - i) - G1 = 0 by omega]; simp
            · exact h3
          subst hst
          simp only
          rw [dT (show (k : Int) < (S.length : Int) by omega), dT (show (i : Int) ≤ (t : Int) by omega), inR_nat hk, byteAt hasc hk, w64 (n := (k : Int) + 1) (by omega) (by omega), hd, w64 (n := (t : Int) - i) (by omega) (by omega), w64 (n := (t : Int) - i - G1) (by omega) (by omega), Int.tmod_eq_emod_of_nonneg (by omega), hm, dF (show ¬ G1 = 0 by omega), dF (show ¬ (t : Int) - i < G1 by omega), dF (show ¬ (i : Int) = 0 by omega), show nz G2 = true from by unfold nz; rw [dF (by omega)]; rfl]
          rfl
        have s_oth : ∀ (i k : Nat) (hk : k < S.length), S[k] ≠ 44 → S[k] ≠ 35 → S[k] ≠ 48 → i ≤ t → step ((i : Int), (k : Int)) = some (.inl ((i : Int), (k : Int) + 1)) := by
          intro i k hk h1 h2 h3 hi
          subst hst
          simp only
          rw [dT (show (k : Int) < (S.length : Int) by omega), dT (show (i : Int) ≤ (t : Int) by omega), inR_nat hk, byteAt hasc hk, w64 (n := (k : Int) + 1) (by omega) (by omega), dF h1, dF h2, dF h3]
          rfl
        have hrun : ∃ o, loopN step big (0, 0) = some o ∧ ∃ z : Int, o = .inl z ∧ (t : Int) ≤ z := by
          refine loop_var (step := step) (fun s => (∃ i : Nat, i < t ∧ s = ((i : Int), ((plcs G1 G2 t ha i).length : Int))) ∨ (∃ i : Nat, 0 < i ∧ i < t ∧ grpB G1 G2 ((t : Int) - i) = true ∧ s = ((i : Int), ((plcs G1 G2 t ha i).length : Int) + 1)) ∨ (∃ i k : Nat, s = ((i : Int), (k : Int)) ∧ t ≤ i ∧ (plcs G1 G2 t ha t).length ≤ k ∧ k ≤ S.length))
            (fun s => ((S.length : Int) - s.2).toNat) (fun o => ∃ z : Int, o = .inl z ∧ (t : Int) ≤ z) (s0 := (0, 0)) ?_ (by simp only; omega) (fun s hs => ?_)
          · by_cases h0 : 0 < t
            · exact .inl ⟨0, h0, by simp [plcs]⟩
            · have : t = 0 := by omega
              subst this
              exact .inr (.inr ⟨0, 0, rfl, by omega, by simp [plcs], by omega⟩)
          · rcases hs with ⟨i, hi, rfl⟩ | ⟨i, hi0, hi, hg, rfl⟩ | ⟨i, k, rfl, hi, hk, hkl⟩
            · obtain ⟨r, hr⟩ := plcs_pre G1 G2 t ha hi
              have hp := plcs_succ G1 G2 t ha i
              by_cases hcm : 0 < i ∧ grpB G1 G2 ((t : Int) - i) = true
              · have hpl : plc G1 G2 t ha i = 44 :: [if i < ha then 35 else 48] := by unfold plc; rw [if_pos hcm]; rfl
                have hS2 : S = plcs G1 G2 t ha i ++ 44 :: ([if i < ha then 35 else 48] ++ r ++ Q) := by rw [hS, hr, hpl]; simp
                have hk : (plcs G1 G2 t ha i).length < S.length := by rw [hS2]; simp
                have hget : S[(plcs G1 G2 t ha i).length] = 44 := by simp [hS2]
                left
                refine ⟨_, s_com i _ hk hget hcm.1 hi hcm.2, .inr (.inl ⟨i, hcm.1, hi, hcm.2, rfl⟩), ?_⟩
                simp only; omega
              · have hpl : plc G1 G2 t ha i = [if i < ha then 35 else 48] := by unfold plc; rw [if_neg hcm]; rfl
                have hS2 : S = plcs G1 G2 t ha i ++ (if i < ha then 35 else 48) :: (r ++ Q) := by rw [hS, hr, hpl]; simp
                have hk : (plcs G1 G2 t ha i).length < S.length := by rw [hS2]; simp
                have hget : S[(plcs G1 G2 t ha i).length] = if i < ha then 35 else 48 := by simp [hS2]
                have hl1 : (plcs G1 G2 t ha (i + 1)).length = (plcs G1 G2 t ha i).length + 1 := by rw [hp, hpl]; simp
                left
                refine ⟨_, s_dig i _ hk (by rw [hget]; split <;> simp) (by omega) (fun _ => by rw [hget]; split <;> (constructor <;> intro h <;> omega)), ?_, by simp only; omega⟩
                by_cases h1 : i + 1 < t
                · exact .inl ⟨i + 1, h1, by rw [hl1]; simp⟩
                · have : t = i + 1 := by omega
                  refine .inr (.inr ⟨i + 1, (plcs G1 G2 t ha i).length + 1, by simp, by omega, ?_, by omega⟩)
                  have h5 : (plcs G1 G2 t ha t).length = (plcs G1 G2 t ha i).length + 1 := by
                    rw [← hl1]; rw [← this]
                  omega
            · obtain ⟨r, hr⟩ := plcs_pre G1 G2 t ha hi
              have hp := plcs_succ G1 G2 t ha i
              have hpl : plc G1 G2 t ha i = 44 :: [if i < ha then 35 else 48] := by unfold plc; rw [if_pos ⟨hi0, hg⟩]; rfl
              have hS2 : S = (plcs G1 G2 t ha i ++ [44]) ++ (if i < ha then 35 else 48) :: (r ++ Q) := by rw [hS, hr, hpl]; simp
              have hk : (plcs G1 G2 t ha i).length + 1 < S.length := by rw [hS2]; simp
              have hget : S[(plcs G1 G2 t ha i).length + 1] = if i < ha then 35 else 48 := by
                have h6 : (plcs G1 G2 t ha i).length + 1 = (plcs G1 G2 t ha i ++ [44]).length := by simp
                simp only [h6, hS2]
                exact get_mid (by simp)
              have hl1 : (plcs G1 G2 t ha (i + 1)).length = (plcs G1 G2 t ha i).length + 2 := by rw [hp, hpl]; simp
              left
              refine ⟨_, s_dig i _ hk (by rw [hget]; split <;> simp) (by omega) (fun _ => by rw [hget]; split <;> (constructor <;> intro h <;> omega)), ?_, by simp only; omega⟩
              by_cases h1 : i + 1 < t
              · exact .inl ⟨i + 1, h1, by rw [hl1]; simp; omega⟩
              · have : t = i + 1 := by omega
                refine .inr (.inr ⟨i + 1, (plcs G1 G2 t ha i).length + 1 + 1, by simp, by omega, ?_, by omega⟩)
                have h5 : (plcs G1 G2 t ha t).length = (plcs G1 G2 t ha i).length + 2 := by
                  rw [← hl1]; rw [← this]
                omega
            · by_cases hend : (k : Int) ≥ S.length ∨ (i : Int) > t
              · exact .inr ⟨_, s_end _ _ hend, _, rfl, by omega⟩
              · have hks : k < S.length := by omega
                have hit : i = t := by omega
                have hmem : S[k] ≠ 44 := by
                  refine hno _ ?_
                  have : S[k] = Q[k - (plcs G1 G2 t ha t).length]'(by have := hks; rw [hS] at this; simp at this; omega) := by
                    simp only [hS]
                    rw [List.getElem_append_right hk]
                  rw [this]; exact List.getElem_mem _
                by_cases hd : S[k] = 35 ∨ S[k] = 48
                · left
                  exact ⟨_, s_dig i k hks hd (by omega) (fun h => by omega), .inr (.inr ⟨i + 1, k + 1, by simp, by omega, by omega, by omega⟩), by simp only; omega⟩
                · left
                  exact ⟨_, s_oth i k hks hmem (fun h => hd (.inl h)) (fun h => hd (.inr h)) (by omega), .inr (.inr ⟨i, k + 1, by simp, by omega, by omega, by omega⟩), by simp only; omega⟩
        obtain ⟨o, ho, z, rfl, hz⟩ := hrun
        rw [ho]
        simp only [Option.bind_some, joinX]
        have hlen : t ≤ S.length := by rw [hS, List.length_append]; omega
        rw [dT (show z ≥ (t : Int) by omega), dT (show (S.length : Int) ≥ (t : Int) by omega)]
        rfl
  · rw [dF hf]; rfl

set_option maxRecDepth 100000 in
theorem PatGroups_lifted (os : Os) (started : os.Started) (H : Type) (enc : TypeId × Value → H) :
    ReturnsInHanded {} Try.checked os 5 .any (Rows.patGroupsSpec.pre6 enc Try.prog Try.f5 Rows.patGroupsRow.domain false) (Rows.patGroupsSpec.post enc Try.prog Try.f5 false true false false) := by
  refine returnsInHanded_of_change_sized (C := Try.checked) Try.own started (by kernel_rfl) Try.func5
    (ChangeSpec.witness6 (enc := enc) (C := Try.checked) false ⟨#[], #[.agg #[.slice none 0 0, .slice none 0 0, .slice none 0 0, .slice none 0 0, .bool false, .int .i64 0, .int .i64 0, .int .i64 0, .int .i64 0, .int .i64 0, .int .i64 0, .int .i64 0, .int .i64 0, .int .i64 0, .bool false, .int .i32 0, .int .i64 0]], []⟩ 8 (by kernel_rfl) (by kernel_rfl) (by kernel_rfl) (by kernel_rfl)) ?_
  intro W base args ds gs before hval0 hW _ hsz0 _
  have hsz : (DataW.weightsEach Try.prog (Try.f5.params.toList ++ Rows.patGroupsSpec.plain.varTypes Try.prog) (ds ++ gs)).all (· ≤ reachBytes) = true := hsz0
  clear hsz0
  refine law_post (P := Try.prog) (n := 4) (tb := 4) Try.laidOut Try.underlying4 rfl rfl (by kernel_rfl) (fun h => ?_) hval0 hW ?_ glob_none
  · rw [Try.params5] at h
    obtain ⟨d0, rfl⟩ := l1 h
    exact ⟨rfl, rfl, rfl⟩
  · intro ss hg hl1 hl2 hs
    subst hg
    rw [Try.params5] at hl1 hl2 hs hsz
    obtain ⟨d0, rfl⟩ := l1 hl1
    obtain ⟨s0, rfl⟩ := l1 hl2
    obtain ⟨cs0, rfl, hc0⟩ := showsV_struct Try.underlying24 (hs 0 24 _ _ rfl rfl rfl)
    obtain ⟨a0, rfl, w0⟩ := tells_T24 (n := 0) _ _ hc0 (sized_param hsz (j := 0) rfl rfl)
    exact ⟨[], exerguelaw10_PatGroups_ok (Groups_true a0 w0)⟩
theorem PatGroups_holds : Rows.PatGroupsSaid :=
  OpenClaim.holds_of_wide 5 Try.f5 rfl rfl rfl rfl rfl rfl rfl ⟨rfl, rfl, rfl, rfl, rfl⟩ rfl rfl rfl rfl rfl (by kernel_rfl) Try.func5 (by kernel_rfl)
    (of_decide_eq_true (by kernel_rfl)) (by unfold Func.isWrapper; first | (rw [if_pos (by decide +kernel)]; kernel_rfl) | (rw [if_neg (by decide +kernel)]; exact ⟨rfl, rfl⟩))
    (fun os started H enc _ => PatGroups_lifted os started H enc)

end Go.Proofs.Ytdflcknbelpflaa
