/-
  The statement CrcFinds is proved: at every input the law answers true, and its input reads as it did. No conditions.
-/
import Derived.Test.YtlabcjijjeeobaaP
import Derived.Test.YtlabcjijjeeobaaRows
import Derived.ProofKit
import Derived.SizedLaws
namespace Go.Proofs.Ytlabcjijjeeobaa
open Go Go.Sy Go.RowKit Go.ChangeShapes Go.WideShapes Go.ChangeAt
set_option linter.unusedVariables false
set_option linter.unusedSimpArgs false
set_option maxRecDepth 100000

theorem Try.own : ownKnob Try.prog.godebug = none := by kernel_rfl
theorem Try.laidOut : laidOutB Try.prog = true := by kernel_rfl

theorem listN4 {α : Type} {l : List α} (h : l.length = 4) : ∃ a0 a1 a2 a3, l = [a0, a1, a2, a3] := by
  match l, h with
  | [a0, a1, a2, a3], _ => exact ⟨a0, a1, a2, a3, rfl⟩
/-- Its numbers are numbers of their kinds, its lists no longer than memory. -/
def WfSt36 (x : St36) : Prop := (WfI .u8) x.a0_ ∧ (WfI .u8) x.a1_ ∧ (WfI .u8) x.a2_ ∧ (WfI .u8) x.a3_
theorem tells_T36 {n : Nat} : Tells Try.prog (n + 2) 36 encSt36 WfSt36 := fun d cs h hs => by
  have hl : cs.length = 4 := (shows_alen Try.underlying36 h).trans (by kernel_rfl)
  obtain ⟨c0, c1, c2, c3, rfl⟩ := listN4 hl
  obtain ⟨p0, h0, z0⟩ := shows_elem Try.underlying36 h hs 0 [c0] (by kernel_rfl) (by kernel_rfl)
  obtain ⟨x0, e0, w0⟩ : ∃ x : Int, [c0] = (encI .u8) x ∧ (WfI .u8) x := (tells_int Try.underlying5) p0 _ h0 z0
  obtain ⟨p1, h1, z1⟩ := shows_elem Try.underlying36 h hs 1 [c1] (by kernel_rfl) (by kernel_rfl)
  obtain ⟨x1, e1, w1⟩ : ∃ x : Int, [c1] = (encI .u8) x ∧ (WfI .u8) x := (tells_int Try.underlying5) p1 _ h1 z1
  obtain ⟨p2, h2, z2⟩ := shows_elem Try.underlying36 h hs 2 [c2] (by kernel_rfl) (by kernel_rfl)
  obtain ⟨x2, e2, w2⟩ : ∃ x : Int, [c2] = (encI .u8) x ∧ (WfI .u8) x := (tells_int Try.underlying5) p2 _ h2 z2
  obtain ⟨p3, h3, z3⟩ := shows_elem Try.underlying36 h hs 3 [c3] (by kernel_rfl) (by kernel_rfl)
  obtain ⟨x3, e3, w3⟩ : ∃ x : Int, [c3] = (encI .u8) x ∧ (WfI .u8) x := (tells_int Try.underlying5) p3 _ h3 z3
  refine ⟨⟨x0, x1, x2, x3⟩, ?_, ⟨w0, w1, w2, w3⟩⟩
  show [c0] ++ [c1] ++ [c2] ++ [c3] = ((encI .u8) x0 ++ (encI .u8) x1 ++ (encI .u8) x2 ++ (encI .u8) x3)
  rw [e0, e1, e2, e3]
theorem setAt_mid {pre suf : List Int} {x v : Int} : setAt (pre ++ x :: suf) (pre.length : Int) v = pre ++ v :: suf := by
  unfold setAt
  rw [Int.toNat_natCast, List.set_append_right _ _ (by omega)]
  simp
theorem burst_loop {pre suf : List Nat} {p q r s a b c d : Nat} (hl : bytesP (pre ++ p :: q :: r :: s :: suf)) (ha : a < 256) (hb : b < 256) (hc : c < 256) (hd : d < 256) (hlen : pre.length + suf.length ≤ 4294967290) :
    loopN (fun (s149 : Int × (List Int)) => (bif (decide (s149.1 < 4)) then (bif inR (IntKind.wrap .i64 ((pre.length : Int) + s149.1)) s149.2.length then (bif inR (IntKind.wrap .i64 ((pre.length : Int) + s149.1)) s149.2.length then (bif (decide (s149.1 = 0)) then (bif inR (IntKind.wrap .i64 ((pre.length : Int) + s149.1)) s149.2.length then (bif inR (IntKind.wrap .i64 ((pre.length : Int) + s149.1)) s149.2.length then (some (.inl ((IntKind.wrap .i64 (s149.1 + 1)), (setAt s149.2 (IntKind.wrap .i64 ((pre.length : Int) + s149.1)) ((bits .xor .u8 ((nth s149.2 (IntKind.wrap .i64 ((pre.length : Int) + s149.1)))) (a : Int))))))) else none) else none) else (bif (decide (s149.1 = 1)) then (bif inR (IntKind.wrap .i64 ((pre.length : Int) + s149.1)) s149.2.length then (bif inR (IntKind.wrap .i64 ((pre.length : Int) + s149.1)) s149.2.length then (some (.inl ((IntKind.wrap .i64 (s149.1 + 1)), (setAt s149.2 (IntKind.wrap .i64 ((pre.length : Int) + s149.1)) ((bits .xor .u8 ((nth s149.2 (IntKind.wrap .i64 ((pre.length : Int) + s149.1)))) (b : Int))))))) else none) else none) else (bif (decide (s149.1 = 2)) then (bif inR (IntKind.wrap .i64 ((pre.length : Int) + s149.1)) s149.2.length then (bif inR (IntKind.wrap .i64 ((pre.length : Int) + s149.1)) s149.2.length then (some (.inl ((IntKind.wrap .i64 (s149.1 + 1)), (setAt s149.2 (IntKind.wrap .i64 ((pre.length : Int) + s149.1)) ((bits .xor .u8 ((nth s149.2 (IntKind.wrap .i64 ((pre.length : Int) + s149.1)))) (c : Int))))))) else none) else none) else (bif (decide (s149.1 = 3)) then (bif inR (IntKind.wrap .i64 ((pre.length : Int) + s149.1)) s149.2.length then (bif inR (IntKind.wrap .i64 ((pre.length : Int) + s149.1)) s149.2.length then (some (.inl ((IntKind.wrap .i64 (s149.1 + 1)), (setAt s149.2 (IntKind.wrap .i64 ((pre.length : Int) + s149.1)) ((bits .xor .u8 ((nth s149.2 (IntKind.wrap .i64 ((pre.length : Int) + s149.1)))) (d : Int))))))) else none) else none) else none)))) else none) else none) else (some (.inr s149.2)))) big (0, up (pre ++ p :: q :: r :: s :: suf))
      = some (up (pre ++ (p ^^^ a) :: (q ^^^ b) :: (r ^^^ c) :: (s ^^^ d) :: suf)) := by
  have hp := hl p (by simp)
  have hq := hl q (by simp)
  have hr := hl r (by simp)
  have hs := hl s (by simp)
  generalize hst : (fun (s149 : Int × (List Int)) => (bif (decide (s149.1 < 4)) then (bif inR (IntKind.wrap .i64 ((pre.length : Int) + s149.1)) s149.2.length then (bif inR (IntKind.wrap .i64 ((pre.length : Int) + s149.1)) s149.2.length then (bif (decide (s149.1 = 0)) then (bif inR (IntKind.wrap .i64 ((pre.length : Int) + s149.1)) s149.2.length then (bif inR (IntKind.wrap .i64 ((pre.length : Int) + s149.1)) s149.2.length then (some (.inl ((IntKind.wrap .i64 (s149.1 + 1)), (setAt s149.2 (IntKind.wrap .i64 ((pre.length : Int) + s149.1)) ((bits .xor .u8 ((nth s149.2 (IntKind.wrap .i64 ((pre.length : Int) + s149.1)))) (a : Int))))))) else none) else none) else (bif (decide (s149.1 = 1)) then (bif inR (IntKind.wrap .i64 ((pre.length : Int) + s149.1)) s149.2.length then (bif inR (IntKind.wrap .i64 ((pre.length : Int) + s149.1)) s149.2.length then (some (.inl ((IntKind.wrap .i64 (s149.1 + 1)), (setAt s149.2 (IntKind.wrap .i64 ((pre.length : Int) + s149.1)) ((bits .xor .u8 ((nth s149.2 (IntKind.wrap .i64 ((pre.length : Int) + s149.1)))) (b : Int))))))) else none) else none) else (bif (decide (s149.1 = 2)) then (bif inR (IntKind.wrap .i64 ((pre.length : Int) + s149.1)) s149.2.length then (bif inR (IntKind.wrap .i64 ((pre.length : Int) + s149.1)) s149.2.length then (some (.inl ((IntKind.wrap .i64 (s149.1 + 1)), (setAt s149.2 (IntKind.wrap .i64 ((pre.length : Int) + s149.1)) ((bits .xor .u8 ((nth s149.2 (IntKind.wrap .i64 ((pre.length : Int) + s149.1)))) (c : Int))))))) else none) else none) else (bif (decide (s149.1 = 3)) then (bif inR (IntKind.wrap .i64 ((pre.length : Int) + s149.1)) s149.2.length then (bif inR (IntKind.wrap .i64 ((pre.length : Int) + s149.1)) s149.2.length then (some (.inl ((IntKind.wrap .i64 (s149.1 + 1)), (setAt s149.2 (IntKind.wrap .i64 ((pre.length : Int) + s149.1)) ((bits .xor .u8 ((nth s149.2 (IntKind.wrap .i64 ((pre.length : Int) + s149.1)))) (d : Int))))))) else none) else none) else none)))) else none) else none) else (some (.inr s149.2)) : Option ((Int × (List Int)) ⊕ (List Int)))) = step
  have hbig : big = 18446744073709551611 + 1 + 1 + 1 + 1 + 1 := rfl
  have key : ∀ (k : Int) (P S : List Int) (x v : Int), 0 ≤ k → k < 4 → (P.length : Int) = (pre.length : Int) + k → P.length + S.length ≤ 4294967296 → inR (P.length : Int) (P ++ x :: S).length = true ∧
      IntKind.wrap .i64 ((pre.length : Int) + k) = (P.length : Int) ∧ nth (P ++ x :: S) (P.length : Int) = x ∧ setAt (P ++ x :: S) (P.length : Int) v = P ++ v :: S ∧ IntKind.wrap .i64 (k + 1) = k + 1 := by
    intro k P S x v hk0 hk hP hS
    exact ⟨inR_mid, by rw [hP]; exact w64 (by omega) (by omega), nth_mid, setAt_mid, w64 (by omega) (by omega)⟩
  rw [hbig]
  have s0 : step (0, up pre ++ (p : Int) :: ((q : Int) :: (r : Int) :: (s : Int) :: up suf)) = some (.inl (1, up pre ++ ((p ^^^ a : Nat) : Int) :: ((q : Int) :: (r : Int) :: (s : Int) :: up suf))) := by
    obtain ⟨k1, k2, k3, k4, k5⟩ := key 0 (up pre) ((q : Int) :: (r : Int) :: (s : Int) :: up suf) p ((p ^^^ a : Nat) : Int) (by omega) (by omega) (by rw [up_len]; omega) (by simp [up_len]; omega)
    subst hst
    simp only [k1, k2, k3, k5, u8_xor_nat p a hp ha, k4]
    rfl
  have s1 : step (1, up pre ++ ((p ^^^ a : Nat) : Int) :: ((q : Int) :: (r : Int) :: (s : Int) :: up suf)) = some (.inl (2, up pre ++ ((p ^^^ a : Nat) : Int) :: (((q ^^^ b : Nat) : Int) :: (r : Int) :: (s : Int) :: up suf))) := by
    obtain ⟨k1, k2, k3, k4, k5⟩ := key 1 (up pre ++ [((p ^^^ a : Nat) : Int)]) ((r : Int) :: (s : Int) :: up suf) q ((q ^^^ b : Nat) : Int) (by omega) (by omega) (by simp [up_len] <;> omega) (by simp [up_len]; omega)
    rw [List.append_assoc] at k1 k3 k4
    simp only [List.cons_append, List.nil_append, List.append_assoc] at k1 k2 k3 k4 k5
    subst hst
    simp only [k1, k2, k3, k5, u8_xor_nat q b hq hb, k4]
    rfl
  have s2 : step (2, up pre ++ ((p ^^^ a : Nat) : Int) :: (((q ^^^ b : Nat) : Int) :: (r : Int) :: (s : Int) :: up suf)) = some (.inl (3, up pre ++ ((p ^^^ a : Nat) : Int) :: (((q ^^^ b : Nat) : Int) :: ((r ^^^ c : Nat) : Int) :: (s : Int) :: up suf))) := by
    obtain ⟨k1, k2, k3, k4, k5⟩ := key 2 (up pre ++ [((p ^^^ a : Nat) : Int), ((q ^^^ b : Nat) : Int)]) ((s : Int) :: up suf) r ((r ^^^ c : Nat) : Int) (by omega) (by omega) (by simp [up_len] <;> omega) (by simp [up_len]; omega)
    rw [List.append_assoc] at k1 k3 k4
    simp only [List.cons_append, List.nil_append, List.append_assoc] at k1 k2 k3 k4 k5
    subst hst
    simp only [k1, k2, k3, k5, u8_xor_nat r c hr hc, k4]
    rfl
  have s3 : step (3, up pre ++ ((p ^^^ a : Nat) : Int) :: (((q ^^^ b : Nat) : Int) :: ((r ^^^ c : Nat) : Int) :: (s : Int) :: up suf)) = some (.inl (4, up pre ++ ((p ^^^ a : Nat) : Int) :: (((q ^^^ b : Nat) : Int) :: ((r ^^^ c : Nat) : Int) :: ((s ^^^ d : Nat) : Int) :: up suf))) := by
    obtain ⟨k1, k2, k3, k4, k5⟩ := key 3 (up pre ++ [((p ^^^ a : Nat) : Int), ((q ^^^ b : Nat) : Int), ((r ^^^ c : Nat) : Int)]) (up suf) s ((s ^^^ d : Nat) : Int) (by omega) (by omega) (by simp [up_len] <;> omega) (by simp [up_len]; omega)
    rw [List.append_assoc] at k1 k3 k4
    simp only [List.cons_append, List.nil_append, List.append_assoc] at k1 k2 k3 k4 k5
    subst hst
    simp only [k1, k2, k3, k5, u8_xor_nat s d hs hd, k4]
    rfl
  have s4 : ∀ l, step (4, l) = some (.inr l) := fun l => by subst hst; rfl
  have hu : ∀ w x y z : Nat, up (pre ++ w :: x :: y :: z :: suf) = up pre ++ (w : Int) :: ((x : Int) :: (y : Int) :: (z : Int) :: up suf) := fun w x y z => by rw [up_append]; rfl
  rw [hu, hu, loopN_next s0, loopN_next s1, loopN_next s2, loopN_next s3, loopN_out (s4 _)]

theorem four_of {x : St36} (w : WfSt36 x) : ∃ a b c d : Nat, x = ⟨a, b, c, d⟩ ∧ a < 256 ∧ b < 256 ∧ c < 256 ∧ d < 256 := by
  obtain ⟨w1, w2, w3, w4⟩ := w
  have w1 := wf_u8 w1
  have w2 := wf_u8 w2
  have w3 := wf_u8 w3
  have w4 := wf_u8 w4
  obtain ⟨a, b, c, d⟩ := x
  simp only at w1 w2 w3 w4
  refine ⟨a.toNat, b.toNat, c.toNat, d.toNat, ?_, by omega, by omega, by omega, by omega⟩
  simp only [St36.mk.injEq]
  omega
theorem part4 {l : List Nat} {i : Nat} (h : i + 4 ≤ l.length) : ∃ pre p q r s suf, l = pre ++ p :: q :: r :: s :: suf ∧ pre.length = i := by
  have h4 : ((l.drop i).take 4).length = 4 := by simp; omega
  obtain ⟨p, q, r, s, he⟩ := l4 h4
  refine ⟨l.take i, p, q, r, s, (l.drop i).drop 4, ?_, by simp; omega⟩
  have e1 : l = l.take i ++ ((l.drop i).take 4 ++ (l.drop i).drop 4) := by rw [List.take_append_drop, List.take_append_drop]
  rw [he] at e1
  exact e1
theorem tail_bytes (y : Nat) : bytesP (tailN y) := fun x hx => by
  simp [tailN] at hx
  rcases hx with rfl | rfl | rfl | rfl <;> omega
theorem bytes_append {l m : List Nat} (h1 : bytesP l) (h2 : bytesP m) : bytesP (l ++ m) := fun x hx => by
  rcases List.mem_append.1 hx with h | h
  · exact h1 x h
  · exact h2 x h
theorem cut_put {l : List Nat} (hl : bytesP l) (hb : l.length ≤ 4294967280) : crc_Cut (up (l ++ tailN (crcN l))) = some (up l, 0) := by
  have hy := crcN_lt hl
  unfold tailN
  rw [cut_eq (bytes_append hl (tail_bytes _)) (by omega), if_pos (tailN_word hy)]
theorem put_valid {l : List Nat} (hl : bytesP l) : onN 4294967295 (l ++ tailN (crcN l)) = res := by
  have hy := crcN_lt hl
  unfold tailN
  exact (valid_iff (bytes_append hl (tail_bytes _))).1 (tailN_word hy)
/-- What isn't summed up is refused. -/
theorem cut_bad {l : List Nat} (hl : bytesP l) (h4 : 4 ≤ l.length) (hb : l.length ≤ 4294967290) (h : onN 4294967295 l ≠ res) : crc_Cut (up l) = some ([], 6) := by
  obtain ⟨m, a, b, c, d, rfl⟩ := split4 h4
  rw [cut_eq hl (by simp at hb; omega), if_neg (fun e => h ((valid_iff hl).1 e))]

theorem cuts_same {l : List Nat} (hl : bytesP l) (hb : l.length ≤ 4294967290) : ∃ r : List Int × Int, crc_Cut (up l) = some r ∧ exergueref08_Cut (up l) = some r ∧ r.1.length ≤ l.length := by
  by_cases h4 : l.length < 4
  · exact ⟨_, cut_short h4, rcut_short h4, by simp⟩
  · obtain ⟨m, a, b, c, d, rfl⟩ := split4 (l := l) (by omega)
    refine ⟨_, cut_eq hl (by simp at hb; omega), rcut_eq hl (by simp at hb; omega), ?_⟩
    split <;> simp [up_len]
theorem Tells_true (s : Int) (ws : WfI .u32 s) (c : Int) (wc : WfI .u8 c) (b : List Int) (wb : WfL (WfI .u8) b) : exerguelaw08_CrcTells s c b = some true := by
  have ws := wf_u32 ws
  have wc := wf_u8 wc
  obtain ⟨l, rfl, hl, hlen⟩ := up_of wb
  obtain ⟨s, rfl⟩ := Int.eq_ofNat_of_zero_le ws.1
  obtain ⟨c, rfl⟩ := Int.eq_ofNat_of_zero_le wc.1
  unfold exerguelaw08_CrcTells
  rw [shown_eq, up_len]
  simp only [Option.bind_some]
  by_cases h : l.length ≤ 2000
  · obtain ⟨r, r1, r2, r3⟩ := cuts_same hl (by omega)
    rw [dF (by omega), r1, r2, step_eq (by omega) (by omega), rstep_eq (by omega) (by omega), on_eq hl (by omega) (by omega), ron_eq hl (by omega) (by omega), of_eq hl (by omega), rof_eq hl (by omega), put_eq hl (by omega), rput_eq hl (by omega)]
    simp only [Option.bind_some, cond_true, cond_false]
    rw [rrow_eq (by rw [up_len]; simp [tailN]; omega), rrow_eq (by omega)]
    simp
  · rw [dT (by omega)]; rfl

theorem On_true (a : List Int) (wa : WfL (WfI .u8) a) (b : List Int) (wb : WfL (WfI .u8) b) : exerguelaw08_CrcOn a b = some true := by
  obtain ⟨l, rfl, hl, hlen⟩ := up_of wa
  obtain ⟨m, rfl, hm, hmlen⟩ := up_of wb
  have b1 := wa.1
  have b2 := wb.1
  rw [up_len] at b1 b2
  unfold exerguelaw08_CrcOn
  rw [shown_eq, up_len, up_len, w64 (by omega) (by omega)]
  simp only [Option.bind_some]
  by_cases h : l.length + m.length ≤ 2000
  · have ha := crcN_lt hl
    have e0 : crc_On 0 (up l) = some ((crcN l : Nat) : Int) := by
      have := on_eq (s := 0) hl (by decide) (by omega)
      rw [show ((0 : Nat) : Int) = 0 from rfl] at this
      rw [this]; rfl
    have e1 : 4294967295 ^^^ onN (4294967295 ^^^ crcN l) m = crcN (l ++ m) := by unfold crcN; rw [xor_back, onN_append]
    rw [dF (by omega), room_of (by omega), room_of (by omega), put_eq hl (by omega), ← up_append, of_eq hl (by omega), of_eq (bytes_append hl hm) (by simp; omega), e0]
    simp only [Option.bind_some, cond_true, cond_false]
    rw [cut_put hl (by omega), on_eq hm ha (by omega), e1]
    simp only [Option.bind_some, cond_true, cond_false]
    rw [rrow_eq (by rw [up_len]; omega)]
    simp
  · rw [dT (by omega)]; rfl

theorem Apart_true (b : List Int) (wb : WfL (WfI .u8) b) (i : Int) (wi : WfI .i64 i) (x : St36) (wx : WfSt36 x) : exerguelaw08_CrcApart b i x = some true := by
  obtain ⟨y, rfl, hy, hlen⟩ := up_of wb
  obtain ⟨a, b, c, d, rfl, ha, hb, hc, hd⟩ := four_of wx
  have b1 := wb.1
  have wi := wf_i64 wi
  rw [up_len] at b1
  unfold exerguelaw08_CrcApart
  rw [shown_eq, up_len, w64 (by omega) (by omega)]
  simp only [Option.bind_some]
  by_cases h : y.length ≤ 2000
  · rw [dF (show ¬ ((y.length : Int) > 2000) by omega), room_of (by omega)]
    simp only [cond_false, cond_true]
    by_cases h1 : i < 0
    · rw [dT h1]; rfl
    · by_cases h2 : i > (y.length : Int) - 4
      · rw [dF h1, dT h2]; rfl
      · rw [dF h1, dF h2]
        by_cases h0 : a = 0 ∧ b = 0 ∧ c = 0 ∧ d = 0
        · obtain ⟨rfl, rfl, rfl, rfl⟩ := h0; rfl
        · have hd0 : ((decide ((a : Int) = 0)) && ((decide ((b : Int) = 0)) && ((decide ((c : Int) = 0)) && ((decide ((d : Int) = 0)) && true)))) = false := by
            rw [Bool.eq_false_iff]
            intro hx
            simp only [Bool.and_eq_true, decide_eq_true_eq, Bool.and_true] at hx
            exact h0 (by omega)
          simp only [hd0, cond_false, Option.bind_some, joinX]
          obtain ⟨pre, p, q, r, s, suf, rfl, hpre⟩ := part4 (l := y) (i := i.toNat) (by omega)
          have hi : i = (pre.length : Int) := by omega
          subst hi
          rw [burst_loop hy ha hb hc hd (by simp at h; omega)]
          have hn := burst_on (t := 4294967295) (by decide) hy ha hb hc hd h0
          have hn7 := burst_on (t := 4294967295 ^^^ 7) (by decide) hy ha hb hc hd h0
          have hy' : bytesP (pre ++ (p ^^^ a) :: (q ^^^ b) :: (r ^^^ c) :: (s ^^^ d) :: suf) := fun z hz => by
            simp at hz
            rcases hz with hz | rfl | rfl | rfl | rfl | hz
            · exact hy z (by simp [hz])
            · exact x8 (hy p (by simp)) ha
            · exact x8 (hy q (by simp)) hb
            · exact x8 (hy r (by simp)) hc
            · exact x8 (hy s (by simp)) hd
            · exact hy z (by simp [hz])
          have hl1 : (pre ++ (p ^^^ a) :: (q ^^^ b) :: (r ^^^ c) :: (s ^^^ d) :: suf).length ≤ 4294967290 := by simp at h ⊢; omega
          have o7 : ∀ l, bytesP l → l.length ≤ 4294967290 → crc_On 7 (up l) = some ((4294967295 ^^^ onN (4294967295 ^^^ 7) l : Nat) : Int) := fun l h1 h2 => on_eq (s := 7) h1 (by decide) (by omega)
          simp only [Option.bind_some, cond_true]
          rw [of_eq hy' (by omega), of_eq hy (by omega), o7 _ hy' hl1, o7 _ hy (by omega)]
          simp only [Option.bind_some]
          have c1 : crcN (pre ++ (p ^^^ a) :: (q ^^^ b) :: (r ^^^ c) :: (s ^^^ d) :: suf) ≠ crcN (pre ++ p :: q :: r :: s :: suf) := fun e => hn (xor_left e)
          have c2 : 4294967295 ^^^ onN (4294967295 ^^^ 7) (pre ++ (p ^^^ a) :: (q ^^^ b) :: (r ^^^ c) :: (s ^^^ d) :: suf) ≠ 4294967295 ^^^ onN (4294967295 ^^^ 7) (pre ++ p :: q :: r :: s :: suf) := fun e => hn7 (xor_left e)
          rw [dT (by omega), dT (by omega)]
          rfl
  · rw [dT (by omega)]; rfl

theorem Sums_true (a : List Int) (wa : WfL (WfI .u8) a) (b : List Int) (wb : WfL (WfI .u8) b) : exerguelaw08_CrcSums a b = some true := by
  obtain ⟨l, rfl, hl, hlen⟩ := up_of wa
  obtain ⟨m, rfl, hm, hmlen⟩ := up_of wb
  unfold exerguelaw08_CrcSums
  rw [shown_eq, up_len, up_len]
  simp only [Option.bind_some]
  by_cases h : l.length ≤ 2000
  · by_cases h2 : l.length = m.length
    · rw [dF (show ¬ ((l.length : Int) > 2000) by omega), dF (show ¬ ¬ ((l.length : Int) = (m.length : Int)) by omega), mk_of (by omega) (by omega) (by omega)]
      simp only [cond_false, cond_true, Option.bind_some, joinX]
      have hz : ∀ n : Nat, rep (n : Int) (0 : Int) = up (List.replicate n 0) := fun n => by simp [rep, up]
      have hbz : ∀ n : Nat, bytesP (List.replicate n 0) := fun n z hz' => by
        have := List.eq_of_mem_replicate hz'; omega
      have hbx : bytesP (List.zipWith (· ^^^ ·) l m) := fun z hz' => by
        obtain ⟨i, hi, rfl⟩ := List.getElem_of_mem hz'
        rw [List.getElem_zipWith]
        exact x8 (hl _ (List.getElem_mem _)) (hm _ (List.getElem_mem _))
      rw [hz]
      refine bind_of (fun o => o = up (List.zipWith (· ^^^ ·) l m)) (loop_count l.length (fun i => ((i : Int), up (List.zipWith (· ^^^ ·) (l.take i) (m.take i) ++ List.replicate (l.length - i) 0))) (fun _ => True) _ (by simp) trivial (fun i hi _ => .inl ⟨?_, trivial⟩) (fun _ => ⟨_, by simp only; rw [dF (by omega)]; rfl, ?_⟩) (by omega)) ?_
      · have e1 : up (List.zipWith (· ^^^ ·) (l.take i) (m.take i) ++ List.replicate (l.length - i) 0) = up (List.zipWith (· ^^^ ·) (l.take i) (m.take i)) ++ (0 : Int) :: up (List.replicate (l.length - (i + 1)) 0) := by
          have : l.length - i = (l.length - (i + 1)) + 1 := by omega
          rw [this, List.replicate_succ, up_append]; rfl
        have e2 : (up (List.zipWith (· ^^^ ·) (l.take i) (m.take i))).length = i := by rw [up_len, List.length_zipWith, List.length_take, List.length_take]; omega
        have n1 : nth (up l) (i : Int) = ((l[i] : Nat) : Int) := by rw [nth_nat (by rw [up_len]; omega)]; simp [up]
        have n2 : nth (up m) (i : Int) = ((m[i]'(by omega) : Nat) : Int) := by rw [nth_nat (by rw [up_len]; omega)]; simp [up]
        have hx := u8_xor_nat l[i] (m[i]'(by omega)) (hl _ (List.getElem_mem _)) (hm _ (List.getElem_mem _))
        have s1 := setAt_mid (pre := up (List.zipWith (· ^^^ ·) (l.take i) (m.take i))) (x := 0) (suf := up (List.replicate (l.length - (i + 1)) 0)) (v := ((l[i] ^^^ m[i]'(by omega) : Nat) : Int))
        rw [e2] at s1
        have i1 : inR (i : Int) (up (List.zipWith (· ^^^ ·) (l.take i) (m.take i)) ++ (0 : Int) :: up (List.replicate (l.length - (i + 1)) 0)).length = true := inR_nat (by rw [List.length_append, e2]; simp)
        simp only
        rw [dT (by omega), inR_nat (by omega), inR_nat (by omega), e1, i1, n1, n2, hx, s1, w64 (by omega) (by omega)]
        simp only [cond_true]
        congr 3
        rw [List.take_succ_eq_append_getElem hi, List.take_succ_eq_append_getElem (show i < m.length by omega), List.zipWith_append (by rw [List.length_take, List.length_take]; omega), up_append, up_append]
        simp [up]
      · simp only [Nat.sub_self, List.replicate_zero, List.append_nil]
        rw [h2, List.take_length, ← h2, List.take_length]
      · rintro o rfl
        rw [of_eq hl (by omega), of_eq hm (by omega), of_eq hbx (by rw [List.length_zipWith]; omega), of_eq (hbz _) (by simp; omega)]
        simp only [Option.bind_some]
        have c1 := crcN_lt hl
        have c2 := crcN_lt hm
        have c3 := crcN_lt hbx
        rw [u32_xor_nat _ _ c3 c1, u32_xor_nat _ _ (x32 c3 c1) c2]
        have key : crcN (List.zipWith (· ^^^ ·) l m) ^^^ crcN l ^^^ crcN m = crcN (List.replicate l.length 0) := by
          unfold crcN
          have k1 := onN_xor l m 4294967295 0 h2
          have k2 := onN_xor m m 4294967295 0 rfl
          have k3 := onN_xor (List.replicate l.length 0) m 4294967295 0 (by simp [h2])
          have z1 : List.zipWith (· ^^^ ·) (List.replicate l.length 0) m = m := by
            apply List.ext_getElem
            · simp; omega
            · intro i g1 g2; simp
          rw [Nat.xor_zero] at k1 k3
          rw [z1] at k3
          rw [k1, k3]
          generalize onN 4294967295 l = A
          generalize onN 0 m = B
          generalize onN 4294967295 (List.replicate l.length 0) = C
          have : 4294967295 ^^^ (A ^^^ B) ^^^ (4294967295 ^^^ A) ^^^ (4294967295 ^^^ (C ^^^ B)) = (4294967295 ^^^ C) ^^^ ((4294967295 ^^^ 4294967295) ^^^ (A ^^^ A) ^^^ (B ^^^ B)) := by ac_rfl
          rw [this]; simp
        rw [key]
        simp
    · rw [dF (show ¬ ((l.length : Int) > 2000) by omega), dT (show ¬ ((l.length : Int) = (m.length : Int)) by omega)]; rfl
  · rw [dT (by omega)]; rfl

theorem Steps_true (b : List Int) (wb : WfL (WfI .u8) b) : exerguelaw08_CrcSteps b = some true := by
  obtain ⟨l, rfl, hl, hlen⟩ := up_of wb
  unfold exerguelaw08_CrcSteps
  rw [shown_eq, up_len]
  simp only [Option.bind_some]
  by_cases h : l.length ≤ 2000
  · rw [dF (show ¬ ((l.length : Int) > 2000) by omega)]
    simp only [cond_false]
    have hs : onN 4294967295 l < 4294967296 := onN_lt (by decide) hl
    rw [loop_fold l (fun pre => (((onN 4294967295 pre : Nat) : Int), ((up pre).length : Int))) ((onN 4294967295 l : Nat) : Int)]
    · have hc := crcN_lt hl
      have e0 := on_eq (l := []) (s := crcN l) (fun _ h => by cases h) hc (by simp)
      have e1 : up [] = ([] : List Int) := rfl
      rw [e1] at e0
      rw [of_eq hl (by omega)]
      simp only [Option.bind_some, cond_true]
      rw [e0, onN_nil, xor_back]
      simp only [Option.bind_some]
      rw [wu32 (by omega) (by omega)]
      have e2 : ((crcN l : Nat) : Int) = 4294967295 - ((onN 4294967295 l : Nat) : Int) := by unfold crcN; rw [compl hs]; omega
      rw [dT e2]
      simp
    · rfl
    · intro pre x suf hx'
      have hx := hl x (by rw [hx']; simp)
      have hp : bytesP pre := fun y hy => hl y (by rw [hx']; simp [hy])
      have hu : up l = up pre ++ (x : Int) :: up suf := by rw [hx', up_append, up_cons]
      have hll : (l.length : Int) = ((up pre ++ (x : Int) :: up suf).length : Int) := by rw [← hu, up_len]
      have hln : l.length = (up pre ++ (x : Int) :: up suf).length := by omega
      have hl' : (up pre ++ (x : Int) :: up suf).length ≤ 4611686018427387904 := by omega
      have e1 : up (pre ++ [x]) = up pre ++ [(x : Int)] := by rw [up_append]; rfl
      simp only
      rw [hll, hln, hu, lt_mid, inR_mid, nth_mid, w_mid hl', e1, onN_append, step_eq (onN_lt (by decide) hp) hx]
      rfl
    · simp only; rw [up_len, dF (by omega)]; rfl
    · omega
  · rw [dT (by omega)]; rfl

theorem Cuts_true (b : List Int) (wb : WfL (WfI .u8) b) (x : St36) (wx : WfSt36 x) : exerguelaw08_CrcCuts b x = some true := by
  obtain ⟨l, rfl, hl, hlen⟩ := up_of wb
  obtain ⟨a, b, c, d, rfl, ha, hb, hc, hd⟩ := four_of wx
  unfold exerguelaw08_CrcCuts
  rw [shown_eq, up_len]
  simp only [Option.bind_some]
  by_cases h : l.length ≤ 2000
  · have hy := crcN_lt hl
    have hx4 : bytesP (l ++ [a, b, c, d]) := bytes_append hl (fun z hz => by
      simp at hz
      rcases hz with rfl | rfl | rfl | rfl <;> assumption)
    have eu : up l ++ [(a : Int), (b : Int), (c : Int), (d : Int)] = up (l ++ [a, b, c, d]) := by rw [up_append]; rfl
    have emin : minI (l.length : Int) 3 = ((min l.length 3 : Nat) : Int) := by unfold minI; split <;> omega
    have ecut : cut (up l) 0 ((min l.length 3 : Nat) : Int) = up (l.take (min l.length 3)) := by
      simp [cut, up, List.map_take]
    rw [dF (show ¬ ((l.length : Int) > 2000) by omega), room_of (by omega), room_of (by simp; omega), eu, put_eq hl (by omega), emin, ecut, cut_short (l := l.take (min l.length 3)) (by rw [List.length_take]; omega), inS_of (by omega) (by omega) (by omega)]
    have ht := tailN_eq ha hb hc hd hy
    have hrow : exergueref01_Row (up (l ++ [a, b, c, d])) (up (l ++ tailN (crcN l))) = some (decide (up (l ++ [a, b, c, d]) = up (l ++ tailN (crcN l)))) := rrow_eq (by rw [up_len]; simp; omega)
    by_cases hw : word a b c d = crcN l
    · have hcut := cut_ok hx4 (by omega) hw
      obtain ⟨g1, g2, g3, g4⟩ := ht.1 hw
      have e1 : up (l ++ [a, b, c, d]) = up (l ++ tailN (crcN l)) := by unfold tailN; rw [g1, g2, g3, g4]
      clear hw ht
      rw [dT e1] at hrow
      rw [hcut]
      simp only [Option.bind_some, hrow, cond_true, cond_false]
      rw [rrow_eq (by rw [up_len]; omega)]
      simp
    · have hcut := cut_no hx4 (by omega) hw
      have e1 : ¬ up (l ++ [a, b, c, d]) = up (l ++ tailN (crcN l)) := fun e => by
        have := List.append_cancel_left (up_inj e)
        unfold tailN at this
        simp only [List.cons.injEq, and_true] at this
        exact hw (ht.2 this)
      clear hw ht
      rw [dF e1] at hrow
      rw [hcut]
      simp only [Option.bind_some, hrow, cond_true, cond_false]
      simp
  · rw [dT (by omega)]; rfl

theorem Finds_true (b : List Int) (wb : WfL (WfI .u8) b) (i : Int) (wi : WfI .i64 i) (x : St36) (wx : WfSt36 x) : exerguelaw08_CrcFinds b i x = some true := by
  obtain ⟨l, rfl, hl, hlen⟩ := up_of wb
  obtain ⟨a, b, c, d, rfl, ha, hb, hc, hd⟩ := four_of wx
  have b1 := wb.1
  have wi := wf_i64 wi
  rw [up_len] at b1
  unfold exerguelaw08_CrcFinds
  rw [shown_eq, up_len]
  simp only [Option.bind_some]
  by_cases h : l.length ≤ 2000
  · rw [put_eq hl (by omega)]
    simp only [Option.bind_some, up_len]
    have hv := put_valid hl
    have hy := bytes_append hl (tail_bytes (crcN l))
    have hyl : (l ++ tailN (crcN l)).length = l.length + 4 := by simp [tailN]
    generalize l ++ tailN (crcN l) = y at hv hy hyl
    rw [hyl, w64 (by omega) (by omega), dF (show ¬ ((l.length : Int) > 2000) by omega), dF (show ¬ (((l.length + 4 : Nat) : Int) < 4) by omega)]
    simp only [cond_false]
    by_cases h1 : i < 0
    · rw [dT h1]; rfl
    · by_cases h2 : i > ((l.length + 4 : Nat) : Int) - 4
      · rw [dF h1, dT h2]; rfl
      · rw [dF h1, dF h2]
        by_cases h0 : a = 0 ∧ b = 0 ∧ c = 0 ∧ d = 0
        · obtain ⟨rfl, rfl, rfl, rfl⟩ := h0; rfl
        · have hd0 : ((decide ((a : Int) = 0)) && ((decide ((b : Int) = 0)) && ((decide ((c : Int) = 0)) && ((decide ((d : Int) = 0)) && true)))) = false := by
            rw [Bool.eq_false_iff]
            intro hx
            simp only [Bool.and_eq_true, decide_eq_true_eq, Bool.and_true] at hx
            exact h0 (by omega)
          simp only [hd0, cond_false, Option.bind_some, joinX]
          obtain ⟨pre, p, q, r, s, suf, rfl, hpre⟩ := part4 (l := y) (i := i.toNat) (by omega)
          have hi : i = (pre.length : Int) := by omega
          subst hi
          rw [burst_loop hy ha hb hc hd (by simp at hyl; omega)]
          have hn := burst_on (t := 4294967295) (by decide) hy ha hb hc hd h0
          rw [hv] at hn
          have hy' : bytesP (pre ++ (p ^^^ a) :: (q ^^^ b) :: (r ^^^ c) :: (s ^^^ d) :: suf) := fun z hz => by
            simp at hz
            rcases hz with hz | rfl | rfl | rfl | rfl | hz
            · exact hy z (by simp [hz])
            · exact x8 (hy p (by simp)) ha
            · exact x8 (hy q (by simp)) hb
            · exact x8 (hy r (by simp)) hc
            · exact x8 (hy s (by simp)) hd
            · exact hy z (by simp [hz])
          simp only [Option.bind_some]
          rw [cut_bad hy' (by simp; omega) (by simp at hyl ⊢; omega) hn]
          rfl
  · rw [put_eq hl (by omega)] 
    rw [dT (by omega)]; rfl


set_option maxRecDepth 100000 in
theorem CrcFinds_lifted (os : Os) (started : os.Started) (H : Type) (enc : TypeId × Value → H) :
    ReturnsInHanded {} Try.checked os 5 .any (Rows.crcFindsSpec.pre6 enc Try.prog Try.f5 Rows.crcFindsRow.domain false) (Rows.crcFindsSpec.post enc Try.prog Try.f5 false true false false) := by
  refine returnsInHanded_of_change_sized (C := Try.checked) Try.own started (by kernel_rfl) Try.func5
    (ChangeSpec.witness6 (enc := enc) (C := Try.checked) false ⟨#[], #[.slice none 0 0, .int .i64 0, .agg #[.int .u8 0, .int .u8 0, .int .u8 0, .int .u8 0]], []⟩ 8 (by kernel_rfl) (by kernel_rfl) (by kernel_rfl) (by kernel_rfl)) ?_
  intro W base args ds gs before hval0 hW _ hsz0 _
  have hsz : (DataW.weightsEach Try.prog (Try.f5.params.toList ++ Rows.crcFindsSpec.plain.varTypes Try.prog) (ds ++ gs)).all (· ≤ reachBytes) = true := hsz0
  clear hsz0
  refine law_post (P := Try.prog) (n := 2) (tb := 4) Try.laidOut Try.underlying4 rfl rfl (by kernel_rfl) (fun h => ?_) hval0 hW ?_
  · rw [Try.params5] at h
    obtain ⟨d0, d1, d2, rfl⟩ := l3 h
    exact ⟨rfl, rfl, rfl⟩
  · intro ss hg hl1 hl2 hs
    subst hg
    rw [Try.params5] at hl1 hl2 hs hsz
    obtain ⟨d0, d1, d2, rfl⟩ := l3 hl1
    obtain ⟨s0, s1, s2, rfl⟩ := l3 hl2
    obtain ⟨a0, e0, w0⟩ := (show Tells Try.prog 2 23 (encL (encI .u8) 1) (WfL (WfI .u8)) from (tells_list (enc := (encI .u8)) (Wf := (WfI .u8)) Try.underlying23 (k := 1) (by kernel_rfl) (by kernel_rfl) (tells_int Try.underlying5))) _ _ (showsV_scalar Try.underlying23 (fun _ => by simp) (fun _ _ => by simp) (hs 0 23 _ _ rfl rfl rfl)) (sized_param hsz (j := 0) rfl rfl)
    obtain rfl : s0 = lsv (encI .u8) 1 a0 := (List.cons.inj e0).1
    obtain ⟨a1, e1, w1⟩ := (show Tells Try.prog 2 3 (encI .i64) (WfI .i64) from (tells_int Try.underlying3)) _ _ (showsV_scalar Try.underlying3 (fun _ => by simp) (fun _ _ => by simp) (hs 1 3 _ _ rfl rfl rfl)) (sized_param hsz (j := 1) rfl rfl)
    obtain rfl : s1 = .int .i64 a1 := (List.cons.inj e1).1
    obtain ⟨cs2, rfl, hc2⟩ := showsV_array Try.underlying36 (hs 2 36 _ _ rfl rfl rfl)
    obtain ⟨a2, rfl, w2⟩ := tells_T36 (n := 0) _ _ hc2 (sized_param hsz (j := 2) rfl rfl)
    exact ⟨[], exerguelaw08_CrcFinds_ok (Finds_true a0 w0 a1 w1 a2 w2)⟩
theorem CrcFinds_holds : Rows.CrcFindsSaid :=
  OpenClaim.holds_of_wide 5 Try.f5 rfl rfl rfl rfl rfl rfl rfl ⟨rfl, rfl, rfl, rfl, rfl⟩ rfl rfl rfl rfl rfl (by kernel_rfl) Try.func5 (by kernel_rfl)
    (of_decide_eq_true (by kernel_rfl)) (by unfold Func.isWrapper; first | (rw [if_pos (by decide +kernel)]; kernel_rfl) | (rw [if_neg (by decide +kernel)]; exact ⟨rfl, rfl⟩))
    (fun os started H enc _ => CrcFinds_lifted os started H enc)

end Go.Proofs.Ytlabcjijjeeobaa
