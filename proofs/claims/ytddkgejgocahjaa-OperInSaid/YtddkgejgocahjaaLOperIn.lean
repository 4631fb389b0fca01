/-
  The statement OperIn is proved: at every input the law answers true, and its input reads as it did. No conditions.
-/
import Derived.Test.YtddkgejgocahjaaP
import Derived.Test.YtddkgejgocahjaaRows
import Derived.ProofKit
import Derived.SizedLaws
namespace Go.Proofs.Ytddkgejgocahjaa
open Go Go.Sy Go.RowKit Go.ChangeShapes Go.WideShapes Go.ChangeAt
set_option linter.unusedVariables false
set_option linter.unusedSimpArgs false
set_option maxRecDepth 100000

theorem Try.own : ownKnob Try.prog.godebug = none := by kernel_rfl
theorem Try.laidOut : laidOutB Try.prog = true := by kernel_rfl

theorem listN4 {α : Type} {l : List α} (h : l.length = 4) : ∃ a0 a1 a2 a3, l = [a0, a1, a2, a3] := by
  match l, h with
  | [a0, a1, a2, a3], _ => exact ⟨a0, a1, a2, a3, rfl⟩
theorem listN8 {α : Type} {l : List α} (h : l.length = 8) : ∃ a0 a1 a2 a3 a4 a5 a6 a7, l = [a0, a1, a2, a3, a4, a5, a6, a7] := by
  match l, h with
  | [a0, a1, a2, a3, a4, a5, a6, a7], _ => exact ⟨a0, a1, a2, a3, a4, a5, a6, a7, rfl⟩
/-- Its numbers are numbers of their kinds, its lists no longer than memory. -/
def WfSt23 (x : St23) : Prop := (WfL (WfI .u8)) x.I_ ∧ (WfL (WfI .u8)) x.F_ ∧ (WfI .i64) x.W_ ∧ (WfI .i64) x.C_
theorem tells_T24 {n : Nat} : Tells Try.prog (n + 3) 24 encSt23 WfSt23 := fun d cs h hs => by
  have hl : cs.length = 4 := (shows_len Try.underlying24 h).trans (by kernel_rfl)
  obtain ⟨c0, c1, c2, c3, rfl⟩ := listN4 hl
  obtain ⟨p0, h0, z0⟩ := shows_field Try.underlying24 h hs 0 22 [c0] (by kernel_rfl)
  obtain ⟨x0, e0, w0⟩ : ∃ x : List Int, [c0] = (encL (encI .u8) 1) x ∧ (WfL (WfI .u8)) x := (tells_list (enc := (encI .u8)) (Wf := (WfI .u8)) Try.underlying22 (k := 1) (by kernel_rfl) (by kernel_rfl) (tells_int Try.underlying5)) p0 _ h0 z0
  obtain ⟨p1, h1, z1⟩ := shows_field Try.underlying24 h hs 1 22 [c1] (by kernel_rfl)
  obtain ⟨x1, e1, w1⟩ : ∃ x : List Int, [c1] = (encL (encI .u8) 1) x ∧ (WfL (WfI .u8)) x := (tells_list (enc := (encI .u8)) (Wf := (WfI .u8)) Try.underlying22 (k := 1) (by kernel_rfl) (by kernel_rfl) (tells_int Try.underlying5)) p1 _ h1 z1
  obtain ⟨p2, h2, z2⟩ := shows_field Try.underlying24 h hs 2 3 [c2] (by kernel_rfl)
  obtain ⟨x2, e2, w2⟩ : ∃ x : Int, [c2] = (encI .i64) x ∧ (WfI .i64) x := (tells_int Try.underlying3) p2 _ h2 z2
  obtain ⟨p3, h3, z3⟩ := shows_field Try.underlying24 h hs 3 3 [c3] (by kernel_rfl)
  obtain ⟨x3, e3, w3⟩ : ∃ x : Int, [c3] = (encI .i64) x ∧ (WfI .i64) x := (tells_int Try.underlying3) p3 _ h3 z3
  refine ⟨⟨x0, x1, x2, x3⟩, ?_, ⟨w0, w1, w2, w3⟩⟩
  show [c0] ++ [c1] ++ [c2] ++ [c3] = ((encL (encI .u8) 1) x0 ++ (encL (encI .u8) 1) x1 ++ (encI .i64) x2 ++ (encI .i64) x3)
  rw [e0, e1, e2, e3]
/-- Its numbers are numbers of their kinds, its lists no longer than memory. -/
def WfSt25 (x : St25) : Prop := (WfL (WfI .u8)) x.Whole_ ∧ (WfL (WfI .u8)) x.Part_ ∧ (WfI .i64) x.C_ ∧ WfSt23 x.O_ ∧ (WfI .u8) x.Name_
theorem tells_T26 {n : Nat} : Tells Try.prog (n + 4) 26 encSt25 WfSt25 := fun d cs h hs => by
  have hl : cs.length = 8 := (shows_len Try.underlying26 h).trans (by kernel_rfl)
  obtain ⟨c0, c1, c2, c3, c4, c5, c6, c7, rfl⟩ := listN8 hl
  obtain ⟨p0, h0, z0⟩ := shows_field Try.underlying26 h hs 0 22 [c0] (by kernel_rfl)
  obtain ⟨x0, e0, w0⟩ : ∃ x : List Int, [c0] = (encL (encI .u8) 1) x ∧ (WfL (WfI .u8)) x := (tells_list (enc := (encI .u8)) (Wf := (WfI .u8)) Try.underlying22 (k := 1) (by kernel_rfl) (by kernel_rfl) (tells_int Try.underlying5)) p0 _ h0 z0
  obtain ⟨p1, h1, z1⟩ := shows_field Try.underlying26 h hs 1 22 [c1] (by kernel_rfl)
  obtain ⟨x1, e1, w1⟩ : ∃ x : List Int, [c1] = (encL (encI .u8) 1) x ∧ (WfL (WfI .u8)) x := (tells_list (enc := (encI .u8)) (Wf := (WfI .u8)) Try.underlying22 (k := 1) (by kernel_rfl) (by kernel_rfl) (tells_int Try.underlying5)) p1 _ h1 z1
  obtain ⟨p2, h2, z2⟩ := shows_field Try.underlying26 h hs 2 3 [c2] (by kernel_rfl)
  obtain ⟨x2, e2, w2⟩ : ∃ x : Int, [c2] = (encI .i64) x ∧ (WfI .i64) x := (tells_int Try.underlying3) p2 _ h2 z2
  obtain ⟨p3, h3, z3⟩ := shows_field Try.underlying26 h hs 3 24 [c3, c4, c5, c6] (by kernel_rfl)
  obtain ⟨x3, e3, w3⟩ : ∃ x : St23, [c3, c4, c5, c6] = encSt23 x ∧ WfSt23 x := tells_T24 p3 _ h3 z3
  obtain ⟨p4, h4, z4⟩ := shows_field Try.underlying26 h hs 4 5 [c7] (by kernel_rfl)
  obtain ⟨x4, e4, w4⟩ : ∃ x : Int, [c7] = (encI .u8) x ∧ (WfI .u8) x := (tells_int Try.underlying5) p4 _ h4 z4
  refine ⟨⟨x0, x1, x2, x3, x4⟩, ?_, ⟨w0, w1, w2, w3, w4⟩⟩
  show [c0] ++ [c1] ++ [c2] ++ [c3, c4, c5, c6] ++ [c7] = ((encL (encI .u8) 1) x0 ++ (encL (encI .u8) 1) x1 ++ (encI .i64) x2 ++ encSt23 x3 ++ (encI .u8) x4)
  rw [e0, e1, e2, e3, e4]
/-- Its numbers are numbers of their kinds, its lists no longer than memory. -/
def WfSt39 (x : St39) : Prop := (WfL (WfI .u8)) x.L_ ∧ (WfI .i64) x.M_ ∧ (WfI .i64) x.From_ ∧ (WfI .i64) x.To_
theorem tells_T40 {n : Nat} : Tells Try.prog (n + 3) 40 encSt39 WfSt39 := fun d cs h hs => by
  have hl : cs.length = 4 := (shows_len Try.underlying40 h).trans (by kernel_rfl)
  obtain ⟨c0, c1, c2, c3, rfl⟩ := listN4 hl
  obtain ⟨p0, h0, z0⟩ := shows_field Try.underlying40 h hs 0 22 [c0] (by kernel_rfl)
  obtain ⟨x0, e0, w0⟩ : ∃ x : List Int, [c0] = (encL (encI .u8) 1) x ∧ (WfL (WfI .u8)) x := (tells_list (enc := (encI .u8)) (Wf := (WfI .u8)) Try.underlying22 (k := 1) (by kernel_rfl) (by kernel_rfl) (tells_int Try.underlying5)) p0 _ h0 z0
  obtain ⟨p1, h1, z1⟩ := shows_field Try.underlying40 h hs 1 3 [c1] (by kernel_rfl)
  obtain ⟨x1, e1, w1⟩ : ∃ x : Int, [c1] = (encI .i64) x ∧ (WfI .i64) x := (tells_int Try.underlying3) p1 _ h1 z1
  obtain ⟨p2, h2, z2⟩ := shows_field Try.underlying40 h hs 2 3 [c2] (by kernel_rfl)
  obtain ⟨x2, e2, w2⟩ : ∃ x : Int, [c2] = (encI .i64) x ∧ (WfI .i64) x := (tells_int Try.underlying3) p2 _ h2 z2
  obtain ⟨p3, h3, z3⟩ := shows_field Try.underlying40 h hs 3 3 [c3] (by kernel_rfl)
  obtain ⟨x3, e3, w3⟩ : ∃ x : Int, [c3] = (encI .i64) x ∧ (WfI .i64) x := (tells_int Try.underlying3) p3 _ h3 z3
  refine ⟨⟨x0, x1, x2, x3⟩, ?_, ⟨w0, w1, w2, w3⟩⟩
  show [c0] ++ [c1] ++ [c2] ++ [c3] = ((encL (encI .u8) 1) x0 ++ (encI .i64) x1 ++ (encI .i64) x2 ++ (encI .i64) x3)
  rw [e0, e1, e2, e3]
/-- Its numbers are numbers of their kinds, its lists no longer than memory. -/
def WfSt47 (x : St47) : Prop := (WfL (WfI .u8)) x.L_ ∧ (WfI .u8) x.C_ ∧ (WfI .i64) x.M_ ∧ (WfI .u16) x.N_
theorem tells_T48 {n : Nat} : Tells Try.prog (n + 3) 48 encSt47 WfSt47 := fun d cs h hs => by
  have hl : cs.length = 4 := (shows_len Try.underlying48 h).trans (by kernel_rfl)
  obtain ⟨c0, c1, c2, c3, rfl⟩ := listN4 hl
  obtain ⟨p0, h0, z0⟩ := shows_field Try.underlying48 h hs 0 22 [c0] (by kernel_rfl)
  obtain ⟨x0, e0, w0⟩ : ∃ x : List Int, [c0] = (encL (encI .u8) 1) x ∧ (WfL (WfI .u8)) x := (tells_list (enc := (encI .u8)) (Wf := (WfI .u8)) Try.underlying22 (k := 1) (by kernel_rfl) (by kernel_rfl) (tells_int Try.underlying5)) p0 _ h0 z0
  obtain ⟨p1, h1, z1⟩ := shows_field Try.underlying48 h hs 1 5 [c1] (by kernel_rfl)
  obtain ⟨x1, e1, w1⟩ : ∃ x : Int, [c1] = (encI .u8) x ∧ (WfI .u8) x := (tells_int Try.underlying5) p1 _ h1 z1
  obtain ⟨p2, h2, z2⟩ := shows_field Try.underlying48 h hs 2 3 [c2] (by kernel_rfl)
  obtain ⟨x2, e2, w2⟩ : ∃ x : Int, [c2] = (encI .i64) x ∧ (WfI .i64) x := (tells_int Try.underlying3) p2 _ h2 z2
  obtain ⟨p3, h3, z3⟩ := shows_field Try.underlying48 h hs 3 46 [c3] (by kernel_rfl)
  obtain ⟨x3, e3, w3⟩ : ∃ x : Int, [c3] = (encI .u16) x ∧ (WfI .u16) x := (tells_int Try.underlying46) p3 _ h3 z3
  refine ⟨⟨x0, x1, x2, x3⟩, ?_, ⟨w0, w1, w2, w3⟩⟩
  show [c0] ++ [c1] ++ [c2] ++ [c3] = ((encL (encI .u8) 1) x0 ++ (encI .u8) x1 ++ (encI .i64) x2 ++ (encI .u16) x3)
  rw [e0, e1, e2, e3]
/-- Its numbers are numbers of their kinds, its lists no longer than memory. -/
def WfSt50 (x : St50) : Prop := (WfL (WfI .u8)) x.L_ ∧ (WfI .i64) x.A_ ∧ (WfI .i64) x.B_ ∧ (WfI .i64) x.C_
theorem tells_T51 {n : Nat} : Tells Try.prog (n + 3) 51 encSt50 WfSt50 := fun d cs h hs => by
  have hl : cs.length = 4 := (shows_len Try.underlying51 h).trans (by kernel_rfl)
  obtain ⟨c0, c1, c2, c3, rfl⟩ := listN4 hl
  obtain ⟨p0, h0, z0⟩ := shows_field Try.underlying51 h hs 0 22 [c0] (by kernel_rfl)
  obtain ⟨x0, e0, w0⟩ : ∃ x : List Int, [c0] = (encL (encI .u8) 1) x ∧ (WfL (WfI .u8)) x := (tells_list (enc := (encI .u8)) (Wf := (WfI .u8)) Try.underlying22 (k := 1) (by kernel_rfl) (by kernel_rfl) (tells_int Try.underlying5)) p0 _ h0 z0
  obtain ⟨p1, h1, z1⟩ := shows_field Try.underlying51 h hs 1 3 [c1] (by kernel_rfl)
  obtain ⟨x1, e1, w1⟩ : ∃ x : Int, [c1] = (encI .i64) x ∧ (WfI .i64) x := (tells_int Try.underlying3) p1 _ h1 z1
  obtain ⟨p2, h2, z2⟩ := shows_field Try.underlying51 h hs 2 3 [c2] (by kernel_rfl)
  obtain ⟨x2, e2, w2⟩ : ∃ x : Int, [c2] = (encI .i64) x ∧ (WfI .i64) x := (tells_int Try.underlying3) p2 _ h2 z2
  obtain ⟨p3, h3, z3⟩ := shows_field Try.underlying51 h hs 3 3 [c3] (by kernel_rfl)
  obtain ⟨x3, e3, w3⟩ : ∃ x : Int, [c3] = (encI .i64) x ∧ (WfI .i64) x := (tells_int Try.underlying3) p3 _ h3 z3
  refine ⟨⟨x0, x1, x2, x3⟩, ?_, ⟨w0, w1, w2, w3⟩⟩
  show [c0] ++ [c1] ++ [c2] ++ [c3] = ((encL (encI .u8) 1) x0 ++ (encI .i64) x1 ++ (encI .i64) x2 ++ (encI .i64) x3)
  rw [e0, e1, e2, e3]
theorem wrap_range (n : Int) : -9223372036854775808 ≤ IntKind.wrap .i64 n ∧ IntKind.wrap .i64 n < 9223372036854775808 := by
  unfold IntKind.wrap
  simp only [IntKind.signed, IntKind.bits, Bool.true_and, Bool.false_and, Bool.false_eq_true, if_false, decide_eq_true_eq]
  first | omega | (split <;> rename_i hc <;> simp at hc ⊢ <;> omega)
theorem opnd_len {o : St23} {x : Int} (hr : rightB o = true) (h1 : o.I_.length ≤ 4294967296) (h2 : o.F_.length ≤ 4294967296) : (opnd o x).1.length ≤ 4294967296 := by
  obtain ⟨_, _, _, hw, hc0, hc⟩ := rightB_iff.1 hr
  have hfl := full_le o.F_
  have d1 := digs_short (n := o.F_.length) (by omega)
  have d2 := digs_short (n := o.W_.toNat) (by omega)
  have d3 := digs_short (n := o.C_.toNat) (by omega)
  have b1 := bare_len o.F_
  have b2 := bare_len (o.F_.take o.W_.toNat)
  have b3 : (o.F_.take o.W_.toNat).length ≤ 4294967296 := by rw [List.length_take]; omega
  unfold opnd
  repeat' split
  all_goals simp only [List.length_nil]
  all_goals omega

theorem Tells_true (x : St25) (w : WfSt25 x) : exerguelaw07_OperTells x = some true := by
  obtain ⟨w1, w2, w3, ⟨w4, w5, w6, w7⟩, w8⟩ := w
  unfold exerguelaw07_OperTells
  rw [shown_eq, few_eq w1.1 w2.1, few_eq w4.1 w5.1]
  simp only [Option.bind_some]
  by_cases h1 : x.Whole_.length + x.Part_.length ≤ 1000
  · by_cases h2 : x.O_.I_.length + x.O_.F_.length ≤ 1000
    · have l1 := ofV_len x.Whole_ x.Part_ x.C_
      rw [dT h1, dT h2, of_eq (by omega) (by omega), rof_eq (by omega) (by omega), rright_eq (by omega) (by omega), right_eq (by omega) (by omega)]
      simp only [Option.bind_some, Bool.not_true, cond_false, joinX]
      rw [rsame_eq (by omega) (by omega), same_eq (by omega) (by omega), rsame_eq (by omega) (by omega)]
      cases hr : rightB x.O_ with
      | false => simp [joinX]
      | true =>
        rw [operand_eq (by omega) (by omega), roperand_eq (by omega) (by omega) hr, hr]
        have l2 := opnd_len (x := x.Name_) hr (by omega) (by omega)
        simp [joinX]
        rw [rrow_eq (by omega)]; simp
    · rw [dT h1, dF h2]; rfl
  · rw [dF h1]; rfl

theorem Mods_true (x : St39) (w : WfSt39 x) : exerguelaw07_OperMods x = some true := by
  obtain ⟨w1, w2, w3, w4⟩ := w
  have w3 := wf_i64 w3
  have w4 := wf_i64 w4
  unfold exerguelaw07_OperMods
  rw [shown_eq]
  simp only [Option.bind_some]
  by_cases h1 : x.L_.length ≤ 1000
  · rw [dF (show ¬ (x.L_.length : Int) > 1000 by omega), rfigures_eq (by omega)]
    cases hf : figs x.L_ with
    | false => simp [joinX]
    | true =>
      have hp := figsP_of hf (figs_nonneg w1)
      by_cases h2 : x.M_ < 1
      · simp [h2, joinX]
      · by_cases h3 : x.M_ > 1000000000
        · simp [h3, joinX]
        · rw [dF h2, dF h3, mod_eq hp (by omega) (by omega) (by omega), rmod_eq hp (by omega) (by omega) (by omega), in_eq hp (by omega) w3 w4, rin_eq hp (by omega) w3 w4]
          simp [joinX]
  · rw [dT (show (x.L_.length : Int) > 1000 by omega)]; simp [joinX]

theorem Rests_true (x : St47) (w : WfSt47 x) : exerguelaw07_OperRests x = some true := by
  obtain ⟨w1, w2, w3, w4⟩ := w
  have w2 := wf_u8 w2
  have w4 := wf_u16 w4
  unfold exerguelaw07_OperRests
  rw [shown_eq]
  simp only [Option.bind_some]
  by_cases h1 : x.L_.length ≤ 1000
  · rw [dF (show ¬ (x.L_.length : Int) > 1000 by omega), rfigures_eq (by omega)]
    cases hf : figs x.L_ with
    | false => simp [joinX]
    | true =>
      have hp := figsP_of hf (figs_nonneg w1)
      by_cases h0 : x.C_ > 9
      · simp [h0, joinX]
      · by_cases h2 : x.M_ < 1
        · simp [h2, joinX]
        · by_cases h3 : x.M_ > 1000000000
          · simp [h3, joinX]
          · have hp2 : figsP (x.L_ ++ [x.C_]) := fun y hy => by
              simp at hy
              rcases hy with hy | hy
              · exact hp y hy
              · subst hy; omega
            have hv := val_nonneg hp
            have g1 := Int.emod_nonneg (val x.L_) (show x.M_ ≠ 0 by omega)
            have g2 := Int.emod_lt_of_pos (val x.L_) (show 0 < x.M_ by omega)
            rw [dF h0, dF h2, dF h3, mod_eq hp (by omega) (by omega) (by omega), mod_eq hp2 (by simp; omega) (by omega) (by omega), mod_eq (m := 1000000) hp (by omega) (by omega) (by omega), w64 (n := x.N_) (by omega) (by omega), w64 (n := x.N_ - 1) (by omega) (by omega), in_eq hp (by omega) (by omega) (by omega), in_eq hp (by omega) (by omega) (by omega), in_eq hp (by omega) (by omega) (by omega), room_of (by omega), room_of (by simp; omega), val_snoc]
            simp only [Option.bind_some, cond_true, cond_false, joinX, Bool.not_true]
            have hn : nz x.M_ = true := by simp [nz]; omega
            rw [w64 (n := val x.L_ % x.M_ * 10) (by omega) (by omega), w64 (n := x.C_) (by omega) (by omega), w64 (by omega) (by omega), Int.tmod_eq_emod_of_nonneg (by omega), emod_step, hn]
            rw [dT (show val x.L_ % x.M_ ≥ 0 by omega), dT g2]
            by_cases c1 : x.N_ = val x.L_
            · have c2 : val x.L_ % 1000000 = x.N_ := by omega
              simp [c1, c2, hv]
            · have c2 : ¬ (x.N_ ≤ val x.L_ ∧ val x.L_ ≤ x.N_) := by omega
              rw [dF c2]
              by_cases c3 : val x.L_ ≤ x.N_ - 1
              · rw [dT (show 0 ≤ val x.L_ ∧ val x.L_ ≤ x.N_ - 1 by omega), dT (show 0 ≤ val x.L_ ∧ val x.L_ ≤ x.N_ by omega)]; simp
              · rw [dF (show ¬ (0 ≤ val x.L_ ∧ val x.L_ ≤ x.N_ - 1) by omega), dF (show ¬ (0 ≤ val x.L_ ∧ val x.L_ ≤ x.N_) by omega)]; simp
  · rw [dT (show (x.L_.length : Int) > 1000 by omega)]; simp [joinX]

theorem In_true (x : St50) (w : WfSt50 x) : exerguelaw07_OperIn x = some true := by
  obtain ⟨w1, w2, w3, w4⟩ := w
  have w2 := wf_i64 w2
  have w3 := wf_i64 w3
  have w4 := wf_i64 w4
  have wr := wrap_range (x.C_ + 1)
  unfold exerguelaw07_OperIn
  rw [shown_eq]
  simp only [Option.bind_some]
  by_cases h1 : x.L_.length ≤ 1000
  · rw [dF (show ¬ (x.L_.length : Int) > 1000 by omega), rfigures_eq (by omega)]
    cases hf : figs x.L_ with
    | false => simp [joinX]
    | true =>
      have hp := figsP_of hf (figs_nonneg w1)
      have m1 : minI x.A_ x.C_ ≤ x.A_ ∧ minI x.A_ x.C_ ≥ -9223372036854775808 := by unfold minI; split <;> omega
      have m2 : x.B_ ≤ maxI x.B_ x.C_ ∧ maxI x.B_ x.C_ < 9223372036854775808 := by unfold maxI; split <;> omega
      have i1 := in_eq (a := x.A_) (b := x.B_) hp (by omega) w2 w3
      have i2 := in_eq (a := x.A_) (b := x.C_) hp (by omega) w2 w4
      have i3 := in_eq (a := minI x.A_ x.C_) (b := x.B_) hp (by omega) (by omega) w3
      have i4 := in_eq (a := x.A_) (b := maxI x.B_ x.C_) hp (by omega) w2 (by omega)
      have i5 := in_eq (a := IntKind.wrap .i64 (x.C_ + 1)) (b := x.B_) hp (by omega) wr w3
      rw [i1, i2, i3, i4, i5]
      simp only [Option.bind_some, cond_true, cond_false, joinX, Bool.not_true]
      generalize val x.L_ = v at *
      by_cases hin : x.A_ ≤ v ∧ v ≤ x.B_
      · rw [dT hin, dT (show minI x.A_ x.C_ ≤ v ∧ v ≤ x.B_ by omega), dT (show x.A_ ≤ v ∧ v ≤ maxI x.B_ x.C_ by omega), dT (show x.A_ ≤ x.B_ by omega), dF (show ¬ x.A_ > x.B_ by omega)]
        by_cases c1 : x.C_ < x.A_
        · simp [c1]
        · by_cases c2 : x.C_ > x.B_
          · simp [c2]
          · by_cases c3 : v ≤ x.C_
            · rw [dT (show x.A_ ≤ v ∧ v ≤ x.C_ by omega)]; simp
            · have e : IntKind.wrap .i64 (x.C_ + 1) = x.C_ + 1 := w64 (by omega) (by omega)
              rw [e, dF (show ¬ (x.A_ ≤ v ∧ v ≤ x.C_) by omega), dT (show x.C_ < x.B_ by omega), dT (show x.C_ + 1 ≤ v ∧ v ≤ x.B_ by omega)]; simp
      · rw [dF hin]
        by_cases c0 : x.A_ ≤ x.B_
        · rw [dT c0, dF (show ¬ x.A_ > x.B_ by omega)]
          by_cases c1 : x.C_ < x.A_
          · simp [c1]
          · by_cases c2 : x.C_ > x.B_
            · simp [c2]
            · rw [dF (show ¬ (x.A_ ≤ v ∧ v ≤ x.C_) by omega)]
              by_cases c3 : x.C_ < x.B_
              · have e : IntKind.wrap .i64 (x.C_ + 1) = x.C_ + 1 := w64 (by omega) (by omega)
                rw [e, dF (show ¬ (x.C_ + 1 ≤ v ∧ v ≤ x.B_) by omega)]; simp
              · rw [dF c3]; simp
        · rw [dF c0, dT (show x.A_ > x.B_ by omega)]; simp
  · rw [dT (show (x.L_.length : Int) > 1000 by omega)]; simp [joinX]

theorem Back_true (x : St23) (w : WfSt23 x) : exerguelaw07_OperBack x = some true := by
  obtain ⟨w1, w2, w3, w4⟩ := w
  have b1 := w1.1
  have b2 := w2.1
  unfold exerguelaw07_OperBack
  rw [shown_eq, w64 (by omega) (by omega)]
  simp only [Option.bind_some]
  by_cases h1 : x.I_.length + x.F_.length ≤ 1000
  · rw [dF (show ¬ ((x.I_.length : Int) + x.F_.length > 1000) by omega), rright_eq (by omega) (by omega)]
    cases hr : rightB x with
    | false => simp [joinX]
    | true =>
      obtain ⟨r1, r2, r3, r4, r5, r6⟩ := rightB_iff.1 hr
      have e : ofV x.I_ x.F_ x.C_ = (x, 0) := by
        unfold ofV
        rw [if_pos ⟨r1, r2, r5, r6⟩, bare_id r3, ← r4]
      rw [of_eq (by omega) (by omega), e]
      simp only [Option.bind_some, cond_true, cond_false, joinX, Bool.not_true]
      rw [rsame_eq (by omega) (by omega), same_eq (by omega) (by omega), right_eq (by omega) (by omega), hr]
      simp
  · rw [dT (show ((x.I_.length : Int) + x.F_.length > 1000) by omega)]; simp [joinX]

theorem Whole_true (x : St23) (w : WfSt23 x) : exerguelaw07_OperWhole x = some true := by
  obtain ⟨w1, w2, w3, w4⟩ := w
  have b1 := w1.1
  have b2 := w2.1
  unfold exerguelaw07_OperWhole
  rw [shown_eq, w64 (by omega) (by omega)]
  simp only [Option.bind_some]
  by_cases h1 : x.I_.length + x.F_.length ≤ 1000
  · rw [dF (show ¬ ((x.I_.length : Int) + x.F_.length > 1000) by omega), rright_eq (by omega) (by omega)]
    cases hr : rightB x with
    | false => simp [joinX]
    | true =>
      obtain ⟨r1, r2, r3, r4, r5, r6⟩ := rightB_iff.1 hr
      have ho : ∀ n, oper_Operand x n = some (opnd x n) := fun n => by rw [operand_eq (by omega) (by omega), hr]; rfl
      simp only [Option.bind_some, cond_true, cond_false, joinX, Bool.not_true, ho]
      refine bind_of (fun o => o = .inl ()) (loop_count 7 (fun i => (i : Int)) (fun _ => True) _ rfl trivial (fun i hi _ => .inl ⟨?_, trivial⟩) (fun _ => ⟨_, rfl, rfl⟩) (by omega)) ?_
      · have key : ∀ n : Int, (n = 105 ∨ n = 118 ∨ n = 119 ∨ n = 102 ∨ n = 116 ∨ n = 99 ∨ n = 101) → (opnd x n).2 = true ∧ lead0 (opnd x n).1 = false := by
          rintro n (rfl | rfl | rfl | rfl | rfl | rfl | rfl) <;> simp [opnd, r3, lead0_digs, lead0_bare]
        have hn : (((([105, 118, 119, 102, 116, 99, 101] : List UInt8).getD (i : Int).toNat 0).toNat : Nat) : Int) = 105 ∨ (((([105, 118, 119, 102, 116, 99, 101] : List UInt8).getD (i : Int).toNat 0).toNat : Nat) : Int) = 118 ∨ (((([105, 118, 119, 102, 116, 99, 101] : List UInt8).getD (i : Int).toNat 0).toNat : Nat) : Int) = 119 ∨ (((([105, 118, 119, 102, 116, 99, 101] : List UInt8).getD (i : Int).toNat 0).toNat : Nat) : Int) = 102 ∨ (((([105, 118, 119, 102, 116, 99, 101] : List UInt8).getD (i : Int).toNat 0).toNat : Nat) : Int) = 116 ∨ (((([105, 118, 119, 102, 116, 99, 101] : List UInt8).getD (i : Int).toNat 0).toNat : Nat) : Int) = 99 ∨ (((([105, 118, 119, 102, 116, 99, 101] : List UInt8).getD (i : Int).toNat 0).toNat : Nat) : Int) = 101 := by
          have : i = 0 ∨ i = 1 ∨ i = 2 ∨ i = 3 ∨ i = 4 ∨ i = 5 ∨ i = 6 := by omega
          rcases this with rfl | rfl | rfl | rfl | rfl | rfl | rfl <;> decide
        obtain ⟨k1, k2⟩ := key _ hn
        rw [dT (show (i : Int) < (([105, 118, 119, 102, 116, 99, 101] : List UInt8).length : Int) by simp; omega), inR_nat (show i < ([105, 118, 119, 102, 116, 99, 101] : List UInt8).length by simp; omega), w64 (by omega) (by omega), k1, lead_loop, k2]
        simp [joinX]
      · rintro o rfl
        simp only [joinX]
        have l1 := opnd_len (x := 110) hr (by omega) (by omega)
        rw [rrow_eq (by omega)]
        by_cases hw : x.W_ > 0
        · have : ¬ x.W_ = 0 := by omega
          simp [opnd, hw, this]
        · have hw0 : x.W_ = 0 := by omega
          simp [opnd, hw0, bare]
  · rw [dT (show ((x.I_.length : Int) + x.F_.length > 1000) by omega)]; simp [joinX]

theorem Noughts_true (whole : List Int) (w1 : WfL (WfI .u8) whole) (part : List Int) (w2 : WfL (WfI .u8) part) (c : Int) (w3 : WfI .i64 c) : exerguelaw07_OperNoughts whole part c = some true := by
  unfold exerguelaw07_OperNoughts
  rw [shown_eq, few_eq w1.1 w2.1]
  simp only [Option.bind_some]
  by_cases h1 : whole.length + part.length ≤ 1000
  · have fy : figs ([0] ++ whole) = figs whole := by simp [figs]
    have by' : bare ([0] ++ whole) = bare whole := by simp [bare]
    have fz : figs (part ++ [0]) = figs part := by simp [figs]
    have ey : ofV ([0] ++ whole) part c = ofV whole part c := by unfold ofV; rw [fy, by']
    rw [dT h1, of_eq (by omega) (by omega), of_eq (by simp; omega) (by omega), of_eq (by omega) (by simp; omega), ey, room_of (by simp; omega), room_of (by omega), room_of (by simp; omega)]
    have l1 := ofV_len whole part c
    have l2 := ofV_len whole (part ++ [0]) c
    rw [List.length_append] at l2
    simp only [List.length_cons, List.length_nil] at l2
    simp only [Option.bind_some, cond_true, cond_false, joinX, Bool.not_true]
    rw [rsame_eq (by omega) (by omega)]
    have e2 : (ofV whole part c).2 = (ofV whole (part ++ [0]) c).2 := by unfold ofV; rw [fz]; split <;> rfl
    rw [← e2]
    by_cases hok : (ofV whole part c).2 = 0
    · obtain ⟨hr, f1, f2, c1, c2, hx⟩ := ofV_right hok
      obtain ⟨hr', _, _, _, _, hx'⟩ := ofV_right (e2 ▸ hok)
      have ho : ∀ n, oper_Operand (ofV whole part c).1 n = some (opnd (ofV whole part c).1 n) := fun n => by rw [operand_eq (by omega) (by omega), hr]; rfl
      have ho' : ∀ n, oper_Operand (ofV whole (part ++ [0]) c).1 n = some (opnd (ofV whole (part ++ [0]) c).1 n) := fun n => by rw [operand_eq (by omega) (by omega), hr']; rfl
      simp only [ho, ho', hok]
      simp only [decide_true, decide_false, not_true_eq_false, cond_false, cond_true, Bool.not_true, Option.bind_some]
      refine bind_of (fun o => o = .inl ()) (loop_count 6 (fun i => (i : Int)) (fun _ => True) _ rfl trivial (fun i hi _ => .inl ⟨?_, trivial⟩) (fun _ => ⟨_, rfl, rfl⟩) (by omega)) ?_
      · have hfl := full_le part
        have ht : (part ++ [0]).take (full part) = part.take (full part) := by rw [List.take_append_of_le_length hfl]
        have key : ∀ n : Int, (n = 110 ∨ n = 105 ∨ n = 119 ∨ n = 116 ∨ n = 99 ∨ n = 101) → opnd (ofV whole (part ++ [0]) c).1 n = opnd (ofV whole part c).1 n := by
          rw [hx, hx', full_snoc0]
          rintro n (rfl | rfl | rfl | rfl | rfl | rfl) <;> simp [opnd, ht]
        have hn : (((([110, 105, 119, 116, 99, 101] : List UInt8).getD (i : Int).toNat 0).toNat : Nat) : Int) = 110 ∨ (((([110, 105, 119, 116, 99, 101] : List UInt8).getD (i : Int).toNat 0).toNat : Nat) : Int) = 105 ∨ (((([110, 105, 119, 116, 99, 101] : List UInt8).getD (i : Int).toNat 0).toNat : Nat) : Int) = 119 ∨ (((([110, 105, 119, 116, 99, 101] : List UInt8).getD (i : Int).toNat 0).toNat : Nat) : Int) = 116 ∨ (((([110, 105, 119, 116, 99, 101] : List UInt8).getD (i : Int).toNat 0).toNat : Nat) : Int) = 99 ∨ (((([110, 105, 119, 116, 99, 101] : List UInt8).getD (i : Int).toNat 0).toNat : Nat) : Int) = 101 := by
          have : i = 0 ∨ i = 1 ∨ i = 2 ∨ i = 3 ∨ i = 4 ∨ i = 5 := by omega
          rcases this with rfl | rfl | rfl | rfl | rfl | rfl <;> decide
        have l3 := opnd_len (x := (((([110, 105, 119, 116, 99, 101] : List UInt8).getD (i : Int).toNat 0).toNat : Nat) : Int)) hr (by omega) (by omega)
        rw [dT (show (i : Int) < (([110, 105, 119, 116, 99, 101] : List UInt8).length : Int) by simp; omega), inR_nat (show i < ([110, 105, 119, 116, 99, 101] : List UInt8).length by simp; omega), w64 (by omega) (by omega), key _ hn, rrow_eq (by omega)]
        simp [joinX]
      · rintro o rfl
        simp only [joinX]
        have fa : (opnd (ofV whole part c).1 102).1 = bare part := by rw [hx]; rfl
        have fb : (opnd (ofV whole (part ++ [0]) c).1 102).1 = bare (part ++ [0]) := by rw [hx']; rfl
        have lb := bare_len part
        have lb2 := bare_len (part ++ [0])
        simp at lb2
        rw [fa, fb, rrow_eq (by omega), room_of (by omega), room_of (by simp; omega), hx, hx']
        simp only
        have hd : decide (((part ++ [0]).length : Int) = (part.length : Int) + 1) = true := by simp
        rw [w64 (by omega) (by omega), hd, bare_snoc0]
        by_cases hb : bare part = [] <;> simp [hb]
    · have h1' : (ofV whole part c).2 = 1 := by
        unfold ofV at hok ⊢; split at hok
        · exact absurd rfl hok
        · rename_i hn; rw [if_neg hn]
      simp [h1', joinX]
  · rw [dF h1]; rfl

set_option maxRecDepth 100000 in
theorem OperIn_lifted (os : Os) (started : os.Started) (H : Type) (enc : TypeId × Value → H) :
    ReturnsInHanded {} Try.checked os 8 .any (Rows.operInSpec.pre6 enc Try.prog Try.f8 Rows.operInRow.domain false) (Rows.operInSpec.post enc Try.prog Try.f8 false true false false) := by
  refine returnsInHanded_of_change_sized (C := Try.checked) Try.own started (by kernel_rfl) Try.func8
    (ChangeSpec.witness6 (enc := enc) (C := Try.checked) false ⟨#[], #[.agg #[.slice none 0 0, .int .i64 0, .int .i64 0, .int .i64 0]], []⟩ 8 (by kernel_rfl) (by kernel_rfl) (by kernel_rfl) (by kernel_rfl)) ?_
  intro W base args ds gs before hval0 hW _ hsz0 _
  have hsz : (DataW.weightsEach Try.prog (Try.f8.params.toList ++ Rows.operInSpec.plain.varTypes Try.prog) (ds ++ gs)).all (· ≤ reachBytes) = true := hsz0
  clear hsz0
  refine law_post (P := Try.prog) (n := 3) (tb := 4) Try.laidOut Try.underlying4 rfl rfl (by kernel_rfl) (fun h => ?_) hval0 hW ?_
  · rw [Try.params8] at h
    obtain ⟨d0, rfl⟩ := l1 h
    exact ⟨rfl, rfl, rfl⟩
  · intro ss hg hl1 hl2 hs
    subst hg
    rw [Try.params8] at hl1 hl2 hs hsz
    obtain ⟨d0, rfl⟩ := l1 hl1
    obtain ⟨s0, rfl⟩ := l1 hl2
    obtain ⟨cs0, rfl, hc0⟩ := showsV_struct Try.underlying51 (hs 0 51 _ _ rfl rfl rfl)
    obtain ⟨a0, rfl, w0⟩ := tells_T51 (n := 0) _ _ hc0 (sized_param hsz (j := 0) rfl rfl)
    exact ⟨[], exerguelaw07_OperIn_ok (In_true a0 w0)⟩
theorem OperIn_holds : Rows.OperInSaid :=
  OpenClaim.holds_of_wide 8 Try.f8 rfl rfl rfl rfl rfl rfl rfl ⟨rfl, rfl, rfl, rfl, rfl⟩ rfl rfl rfl rfl rfl (by kernel_rfl) Try.func8 (by kernel_rfl)
    (of_decide_eq_true (by kernel_rfl)) (by unfold Func.isWrapper; first | (rw [if_pos (by decide +kernel)]; kernel_rfl) | (rw [if_neg (by decide +kernel)]; exact ⟨rfl, rfl⟩))
    (fun os started H enc _ => OperIn_lifted os started H enc)

end Go.Proofs.Ytddkgejgocahjaa
