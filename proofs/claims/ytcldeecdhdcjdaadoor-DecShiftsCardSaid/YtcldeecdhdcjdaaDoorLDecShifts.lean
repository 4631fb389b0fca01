/-
  The statement DecShiftsCard is proved: at every input the law answers true, and its input reads as it did. Conditions: those of the card (package variables are as the program text lays them).
-/
import Derived.Test.YtcldeecdhdcjdaaDoorP
import Derived.Test.YtcldeecdhdcjdaaDoorCards
import Derived.Test.YtcldeecdhdcjdaaDoorTie
import Derived.ProofKit
import Derived.SizedLaws
import Derived.LaidMore
import Derived.SevenTiedAt
namespace Go.Proofs.YtcldeecdhdcjdaaDoor
open Go Go.Sy Go.RowKit Go.ChangeShapes Go.WideShapes Go.ChangeAt
set_option linter.unusedVariables false
set_option linter.unusedSimpArgs false
set_option maxRecDepth 100000

theorem Tryd.own : ownKnob Tryd.prog.godebug = none := by kernel_rfl
theorem Tryd.laidOut : laidOutB Tryd.prog = true := by kernel_rfl

theorem listN3 {α : Type} {l : List α} (h : l.length = 3) : ∃ a0 a1 a2, l = [a0, a1, a2] := by
  match l, h with
  | [a0, a1, a2], _ => exact ⟨a0, a1, a2, rfl⟩
theorem listN8 {α : Type} {l : List α} (h : l.length = 8) : ∃ a0 a1 a2 a3 a4 a5 a6 a7, l = [a0, a1, a2, a3, a4, a5, a6, a7] := by
  match l, h with
  | [a0, a1, a2, a3, a4, a5, a6, a7], _ => exact ⟨a0, a1, a2, a3, a4, a5, a6, a7, rfl⟩
/-- Its numbers are numbers of their kinds, its lists no longer than memory. -/
def WfSt23 (x : St23) : Prop := WfB x.Neg_ ∧ (WfL (WfI .u8)) x.D_ ∧ (WfI .i64) x.E_
theorem tells_T24 {n : Nat} : Tells Tryd.prog (n + 3) 24 encSt23 WfSt23 := fun d cs h hs => by
  have hl : cs.length = 3 := (shows_len Tryd.underlying24 h).trans (by kernel_rfl)
  obtain ⟨c0, c1, c2, rfl⟩ := listN3 hl
  obtain ⟨p0, h0, z0⟩ := shows_field Tryd.underlying24 h hs 0 4 [c0] (by kernel_rfl)
  obtain ⟨x0, e0, w0⟩ : ∃ x : Bool, [c0] = encB x ∧ WfB x := (tells_bool Tryd.underlying4) p0 _ h0 z0
  obtain ⟨p1, h1, z1⟩ := shows_field Tryd.underlying24 h hs 1 22 [c1] (by kernel_rfl)
  obtain ⟨x1, e1, w1⟩ : ∃ x : List Int, [c1] = (encL (encI .u8) 1) x ∧ (WfL (WfI .u8)) x := (tells_list (enc := (encI .u8)) (Wf := (WfI .u8)) Tryd.underlying22 (k := 1) (by kernel_rfl) (by kernel_rfl) (tells_int Tryd.underlying5)) p1 _ h1 z1
  obtain ⟨p2, h2, z2⟩ := shows_field Tryd.underlying24 h hs 2 3 [c2] (by kernel_rfl)
  obtain ⟨x2, e2, w2⟩ : ∃ x : Int, [c2] = (encI .i64) x ∧ (WfI .i64) x := (tells_int Tryd.underlying3) p2 _ h2 z2
  refine ⟨⟨x0, x1, x2⟩, ?_, ⟨w0, w1, w2⟩⟩
  show [c0] ++ [c1] ++ [c2] = (encB x0 ++ (encL (encI .u8) 1) x1 ++ (encI .i64) x2)
  rw [e0, e1, e2]
/-- Its numbers are numbers of their kinds, its lists no longer than memory. -/
def WfSt38 (x : St38) : Prop := WfSt23 x.A_ ∧ WfSt23 x.B_ ∧ (WfI .i16) x.N_ ∧ (WfI .i16) x.M_
theorem tells_T39 {n : Nat} : Tells Tryd.prog (n + 4) 39 encSt38 WfSt38 := fun d cs h hs => by
  have hl : cs.length = 8 := (shows_len Tryd.underlying39 h).trans (by kernel_rfl)
  obtain ⟨c0, c1, c2, c3, c4, c5, c6, c7, rfl⟩ := listN8 hl
  obtain ⟨p0, h0, z0⟩ := shows_field Tryd.underlying39 h hs 0 24 [c0, c1, c2] (by kernel_rfl)
  obtain ⟨x0, e0, w0⟩ : ∃ x : St23, [c0, c1, c2] = encSt23 x ∧ WfSt23 x := tells_T24 p0 _ h0 z0
  obtain ⟨p1, h1, z1⟩ := shows_field Tryd.underlying39 h hs 1 24 [c3, c4, c5] (by kernel_rfl)
  obtain ⟨x1, e1, w1⟩ : ∃ x : St23, [c3, c4, c5] = encSt23 x ∧ WfSt23 x := tells_T24 p1 _ h1 z1
  obtain ⟨p2, h2, z2⟩ := shows_field Tryd.underlying39 h hs 2 37 [c6] (by kernel_rfl)
  obtain ⟨x2, e2, w2⟩ : ∃ x : Int, [c6] = (encI .i16) x ∧ (WfI .i16) x := (tells_int Tryd.underlying37) p2 _ h2 z2
  obtain ⟨p3, h3, z3⟩ := shows_field Tryd.underlying39 h hs 3 37 [c7] (by kernel_rfl)
  obtain ⟨x3, e3, w3⟩ : ∃ x : Int, [c7] = (encI .i16) x ∧ (WfI .i16) x := (tells_int Tryd.underlying37) p3 _ h3 z3
  refine ⟨⟨x0, x1, x2, x3⟩, ?_, ⟨w0, w1, w2, w3⟩⟩
  show [c0, c1, c2] ++ [c3, c4, c5] ++ [c6] ++ [c7] = (encSt23 x0 ++ encSt23 x1 ++ (encI .i16) x2 ++ (encI .i16) x3)
  rw [e0, e1, e2, e3]
def sgnI (p q : Int) : Int := if p = q then 0 else if p < q then -1 else 1
theorem cmpV_sgn {n1 n2 : Bool} {A B : Nat} : cmpV n1 A n2 B = sgnI (svN n1 A) (svN n2 B) := cmpV_sv
theorem sgn_lt {p q : Int} (h : p < q) : sgnI p q = -1 := by unfold sgnI; rw [if_neg (by omega), if_pos h]
theorem sgn_gt {p q : Int} (h : q < p) : sgnI p q = 1 := by unfold sgnI; rw [if_neg (by omega), if_neg (by omega)]
theorem sgn_eq {p : Int} : sgnI p p = 0 := by unfold sgnI; rw [if_pos rfl]
theorem of_dec {x : St23} (w : WfSt23 x) : ∃ neg l E, x = ⟨neg, up l, E⟩ ∧ l.length ≤ 140737488355328 := by
  obtain ⟨neg, D, E⟩ := x
  obtain ⟨_, w2, _⟩ := w
  obtain ⟨l, rfl, _, hl⟩ := up_of w2
  exact ⟨neg, l, E, rfl, by rw [hl]; exact w2.1⟩
theorem sv_eq {n1 n2 : Bool} {A B : Nat} : svN n1 A = svN n2 B ↔ (n1 = n2 ∧ A = B) ∨ (A = 0 ∧ B = 0) := by
  unfold svN
  cases n1 <;> cases n2 <;> simp <;> omega

theorem Order_true (a : St23) (wa : WfSt23 a) (b : St23) (wb : WfSt23 b) (c : St23) (wc : WfSt23 c) : exerguelaw05_DecOrder a b c = some true := by
  obtain ⟨n1, l, E, rfl, hl⟩ := of_dec wa
  obtain ⟨n2, m, G, rfl, hm⟩ := of_dec wb
  obtain ⟨n3, k, H, rfl, hk⟩ := of_dec wc
  obtain ⟨b1, e1, f1⟩ := rright_eq (neg := n1) (E := E) hl
  obtain ⟨b2, e2, f2⟩ := rright_eq (neg := n2) (E := G) hm
  obtain ⟨b3, e3, f3⟩ := rright_eq (neg := n3) (E := H) hk
  unfold exerguelaw05_DecOrder
  rw [shown_eq, e1, e2, e3]
  simp only [Option.bind_some]
  cases b1 with
  | false => rfl
  | true =>
  cases b2 with
  | false => rfl
  | true =>
  cases b3 with
  | false => rfl
  | true =>
    have r1 := f1.1 rfl
    have r2 := f2.1 rfl
    have r3 := f3.1 rfl
    have z1 := mag_zero r1
    have z2 := mag_zero r2
    simp only [Bool.not_true, cond_false, Option.bind_some, joinX]
    rw [cmp_eq r1 r2, cmp_eq r2 r1, cmp_eq r2 r3, cmp_eq r1 r3]
    have hsame : (Option.bind (exergueref05_Same ⟨n1, up l, E⟩ ⟨n2, up m, G⟩) fun y104 => bif y104 then some true else bif decide (((up l).length : Int) = 0) then some (decide (((up m).length : Int) = 0)) else some false) = some (decide (svN n1 (magN l E) = svN n2 (magN m G))) := by
      rw [rsame_eq r1 r2]
      simp only [Option.bind_some, up_len]
      have d1 : decide ((l.length : Int) = 0) = decide (magN l E = 0) := by
        rw [decide_eq_decide, z1]; constructor
        · intro h; exact List.eq_nil_of_length_eq_zero (by omega)
        · rintro rfl; rfl
      have d2 : decide ((m.length : Int) = 0) = decide (magN m G = 0) := by
        rw [decide_eq_decide, z2]; constructor
        · intro h; exact List.eq_nil_of_length_eq_zero (by omega)
        · rintro rfl; rfl
      rw [d1, d2]
      have hd : decide (svN n1 (magN l E) = svN n2 (magN m G)) = ((decide (n1 = n2) && decide (magN l E = magN m G)) || (decide (magN l E = 0) && decide (magN m G = 0))) := by
        rw [← Bool.decide_and, ← Bool.decide_and, ← Bool.decide_or, decide_eq_decide]; exact sv_eq
      rw [hd]
      cases (decide (n1 = n2) && decide (magN l E = magN m G)) <;> cases decide (magN l E = 0) <;> cases decide (magN m G = 0) <;> rfl
    simp only [Option.bind_some]
    rw [hsame]
    simp only [cmpV_sgn, Option.bind_some]
    generalize svN n1 (magN l E) = p
    generalize svN n2 (magN m G) = q
    generalize svN n3 (magN k H) = r
    rcases Int.lt_trichotomy p q with h | h | h
    · rw [sgn_lt h, sgn_gt h, dF (show ¬ p = q by omega)]
      rcases Int.lt_trichotomy q r with g | g | g
      · rw [sgn_lt g, sgn_lt (show p < r by omega)]; rfl
      · subst g; rw [sgn_eq, sgn_lt h]; rfl
      · rw [sgn_gt g]; rfl
    · subst h
      rw [sgn_eq, dT (show p = p from rfl)]
      rcases Int.lt_trichotomy p r with g | g | g
      · rw [sgn_lt g]; rfl
      · subst g; rw [sgn_eq]; rfl
      · rw [sgn_gt g]; rfl
    · rw [sgn_gt h, sgn_lt h, dF (show ¬ p = q by omega)]; rfl

theorem at_out {l : List Nat} {E p : Int} {neg : Bool} (h : p < E) : dec_At ⟨neg, up l, E⟩ p = some 0 := by
  unfold dec_At
  simp only
  rw [dT h]; rfl
theorem Figures_true (a : St23) (wa : WfSt23 a) (k : Int) (wk : WfI .i16 k) : exerguelaw05_DecFigures a k = some true := by
  obtain ⟨n1, l, E, rfl, hl⟩ := of_dec wa
  have wk := wf_i16 wk
  obtain ⟨b1, e1, f1⟩ := rright_eq (neg := n1) (E := E) hl
  unfold exerguelaw05_DecFigures
  rw [shown_eq, e1]
  simp only [Option.bind_some]
  cases b1 with
  | false => rfl
  | true =>
    have r1 := f1.1 rfl
    have hlow := right_low r1
    rw [mag_eq r1]
    simp only [Bool.not_true, cond_false, Option.bind_some, up_len]
    obtain ⟨M, hM⟩ : ∃ M, M = (if l = [] then 0 else E + (l.length : Int) - 1) := ⟨_, rfl⟩
    rw [← hM]
    have hMr : -1001 ≤ M ∧ M ≤ 2000 := by rw [hM]; split <;> omega
    refine bind_of (fun o => o = .inl ()) (loop_count l.length (fun i => (i : Int)) (fun _ => True) _ rfl trivial (fun i hi _ => .inl ⟨?_, trivial⟩) (fun _ => ⟨.inl (), ?_, rfl⟩) (by omega)) (fun o ho => ?_)
    · have h0 : l ≠ [] := by rintro rfl; simp at hi
      rw [if_neg h0] at hM
      rw [dT (by omega), w64 (n := M - i) (by omega) (by omega), at_eq r1 (by omega) (by omega), fig_at r1 (by omega) (by omega), if_pos (by omega), inR_nat hi, up_get hi]
      have e : (E + (l.length : Int) - 1 - (M - i)).toNat = i := by omega
      rw [e, w64 (by omega) (by omega)]
      simp
    · rw [dF (by omega)]; rfl
    · subst ho
      simp only [joinX]
      rw [w64 (n := k) (by omega) (by omega)]
      by_cases hk : k ≥ 0
      · rw [dT hk, w64 (n := M + 1) (by omega) (by omega), w64 (n := M + 1 + k) (by omega) (by omega), at_eq r1 (by omega) (by omega), fig_at r1 (by omega) (by omega), if_neg]
        · rfl
        · by_cases h0 : l = []
          · subst h0; simp <;> omega
          · rw [if_neg h0] at hM; omega
      · rw [dF hk]
        have hmin : minI E M = E := by
          unfold minI
          by_cases h0 : l = []
          · have := r1.2.1 h0
            rw [if_pos h0] at hM
            subst this; subst hM; rfl
          · have : 0 < l.length := List.length_pos_iff.2 h0
            rw [if_neg h0] at hM
            rw [if_neg (by omega)]
        rw [hmin, w64 (n := E + k) (by omega) (by omega), at_out (p := E + k) (by omega)]
        rfl

theorem Sides_true (a : St23) (wa : WfSt23 a) (b : St23) (wb : WfSt23 b) : exerguelaw05_DecSides a b = some true := by
  obtain ⟨n1, l, E, rfl, hl⟩ := of_dec wa
  obtain ⟨n2, m, G, rfl, hm⟩ := of_dec wb
  obtain ⟨b1, e1, f1⟩ := rright_eq (neg := n1) (E := E) hl
  obtain ⟨b2, e2, f2⟩ := rright_eq (neg := n2) (E := G) hm
  unfold exerguelaw05_DecSides
  rw [shown_eq, e1, e2]
  simp only [Option.bind_some]
  cases b1 with
  | false => rfl
  | true =>
  cases b2 with
  | false => rfl
  | true =>
    have r1 := f1.1 rfl
    have r2 := f2.1 rfl
    have z1 := mag_zero r1
    have hlow := right_low r1
    have r0 : rightP [] 0 := ⟨(fun x hx => by cases hx), fun _ => rfl, fun h => absurd rfl h⟩
    have c0 : dec_Cmp ⟨n1, up l, E⟩ ⟨false, [], 0⟩ = some (cmpV n1 (magN l E) false (magN [] 0)) := cmp_eq r1 r0
    have m0 : magN [] 0 = 0 := (mag_zero r0).2 rfl
    have hrow : exergueref01_Row (up l) (up l) = some (decide (up l = up l)) := row_eq (by rw [up_len]; omega)
    simp only [Bool.not_true, cond_false, Option.bind_some, joinX]
    rw [c0, cmp_eq r1 r2, cmp_eq r1 r2, hrow, m0]
    simp only [cmpV_sgn, Option.bind_some, up_len]
    have hs : (bif decide ((l.length : Int) > 0) then (bif n1 then some (-1) else some 1) else some 0) = some (sgnI (svN n1 (magN l E)) (svN false 0)) := by
      by_cases h0 : l = []
      · subst h0
        have : magN [] E = 0 := z1.2 rfl
        rw [this]; cases n1 <;> rfl
      · have hp : 0 < l.length := List.length_pos_iff.2 h0
        have h1 : 0 < magN l E := Nat.pos_of_ne_zero (fun e => h0 (z1.1 e))
        rw [dT (by omega)]
        cases n1
        · rw [sgn_gt (by simp only [svN]; simp; exact h1)]; rfl
        · rw [sgn_lt (by simp only [svN]; simp; exact h1)]; rfl
    rw [hs]
    simp only [Option.bind_some]
    have hneg : ∀ {n : Bool} {A : Nat}, svN (!n) A = - svN n A := fun {n A} => by unfold svN; cases n <;> simp
    rw [hneg, hneg]
    generalize svN n1 (magN l E) = p
    generalize svN n2 (magN m G) = q
    rcases Int.lt_trichotomy p q with h | h | h
    · rw [sgn_lt h, sgn_gt (show -q < -p by omega)]; first | rfl | simp
    · subst h; rw [sgn_eq, sgn_eq]; first | rfl | simp
    · rw [sgn_gt h, sgn_lt (show -p < -q by omega)]; first | rfl | simp

theorem pw_mono {A B c : Nat} {n1 n2 : Bool} (hc : 0 < c) : cmpV n1 (A * c) n2 (B * c) = cmpV n1 A n2 B := by
  have h1 : A * c = B * c ↔ A = B := ⟨fun h => Nat.eq_of_mul_eq_mul_right hc h, fun h => by rw [h]⟩
  have h2 : A * c < B * c ↔ A < B := Nat.mul_lt_mul_right hc
  have h3 : ∀ X : Nat, X * c = 0 ↔ X = 0 := fun X => by rw [Nat.mul_eq_zero]; omega
  unfold cmpV
  have e : decide (A * c < B * c) = decide (A < B) := by rw [decide_eq_decide]; exact h2
  rw [e]
  by_cases g0 : A = 0 ∧ B = 0
  · rw [if_pos g0, if_pos ⟨(h3 A).2 g0.1, (h3 B).2 g0.2⟩]
  · rw [if_neg g0, if_neg (fun h => g0 ⟨(h3 A).1 h.1, (h3 B).1 h.2⟩)]
    by_cases g1 : A = B
    · rw [if_pos g1, if_pos (h1.2 g1)]
    · rw [if_neg g1, if_neg (fun h => g1 (h1.1 h))]
/-- Where the power goes. -/
def shE (l : List Nat) (E n : Int) : Int := if l = [] then E else E + n
def inB (l : List Nat) (E : Int) : Prop := l = [] ∨ (-1000 ≤ E ∧ E ≤ 1000)
theorem shift_eq {l : List Nat} {E n : Int} {neg : Bool} (h : l.length ≤ 1000) (hE : -1000 ≤ E ∧ E ≤ 1000) (hn : -100000 ≤ n ∧ n ≤ 100000) :
    (inB l (E + n) ∧ dec_Shift ⟨neg, up l, E⟩ n = some (⟨neg, up l, shE l E n⟩, 0)) ∨ (¬ inB l (E + n) ∧ dec_Shift ⟨neg, up l, E⟩ n = some (⟨false, [], 0⟩, 11)) := by
  have hcl : slices_Clone (up l) = some (up l) := clone_id (by rw [up_len]; omega)
  unfold dec_Shift inB shE
  simp only
  rw [hcl, dF (show ¬ n < -1099511627776 by omega), dF (show ¬ n > 1099511627776 by omega)]
  simp only [cond_false, Option.bind_some, joinX, up_len]
  by_cases h0 : l = []
  · left
    refine ⟨.inl h0, ?_⟩
    subst h0; rfl
  · have : l.length ≠ 0 := fun e => h0 (List.eq_nil_of_length_eq_zero e)
    rw [dF (by omega), w64 (n := E + n) (by omega) (by omega), if_neg h0]
    by_cases h1 : E + n < -1000
    · right; exact ⟨by rintro (h | h); exact h0 h; omega, by rw [dT h1]; rfl⟩
    · by_cases h2 : E + n > 1000
      · right; exact ⟨by rintro (h | h); exact h0 h; omega, by rw [dF h1, dT h2]; rfl⟩
      · left; exact ⟨.inr ⟨by omega, by omega⟩, by rw [dF h1, dF h2]; rfl⟩
theorem shift_right {l : List Nat} {E n : Int} (h : rightP l E) (hb : inB l (E + n)) : rightP l (shE l E n) := by
  refine ⟨h.1, fun h0 => ?_, fun h0 => ?_⟩
  · rw [shE, if_pos h0]; exact h.2.1 h0
  · rw [shE, if_neg h0]
    rcases hb with hb | hb
    · exact absurd hb h0
    · exact ⟨(h.2.2 h0).1, hb.1, hb.2, (h.2.2 h0).2.2.2⟩
theorem shift_mag {l : List Nat} {E n : Int} (h : rightP l E) (c : Nat) (hn : n = c) : magN l (shE l E n) = magN l E * 10 ^ c := by
  have hl := right_low h
  by_cases h0 : l = []
  · rw [shE, if_pos h0]; subst h0; simp [magN, vN]
  · rw [shE, if_neg h0]; unfold magN
    rw [hn, pw_add c (by omega), Nat.mul_assoc]
theorem sh_sh {l : List Nat} {E a b : Int} : shE l (shE l E a) b = shE l E (a + b) := by
  unfold shE; split <;> omega
theorem sh_zero {l : List Nat} {E : Int} : shE l E 0 = E := by unfold shE; split <;> omega
theorem shift_cmp {l m : List Nat} {E G n : Int} {n1 n2 : Bool} (h1 : rightP l E) (h2 : rightP m G) (b1 : inB l (E + n)) (b2 : inB m (G + n)) :
    cmpV n1 (magN l (shE l E n)) n2 (magN m (shE m G n)) = cmpV n1 (magN l E) n2 (magN m G) := by
  by_cases hn : 0 ≤ n
  · obtain ⟨c, hc⟩ : ∃ c : Nat, n = c := ⟨n.toNat, by omega⟩
    rw [shift_mag h1 c hc, shift_mag h2 c hc]
    exact pw_mono (Nat.pow_pos (by decide))
  · obtain ⟨c, hc⟩ : ∃ c : Nat, -n = c := ⟨(-n).toNat, by omega⟩
    have e1 := shift_mag (shift_right h1 b1) c hc
    have e2 := shift_mag (shift_right h2 b2) c hc
    rw [sh_sh, show n + -n = 0 by omega, sh_zero] at e1 e2
    rw [e1, e2]
    exact (pw_mono (Nat.pow_pos (by decide))).symm
theorem Shifts_true (x : St38) (w : WfSt38 x) : exerguelaw05_DecShifts x = some true := by
  obtain ⟨A, B, n, k⟩ := x
  obtain ⟨wa, wb, wn, wk⟩ := w
  obtain ⟨n1, l, E, hA, hl⟩ := of_dec wa
  obtain ⟨n2, m, G, hB, hm⟩ := of_dec wb
  simp only at hA hB
  subst hA
  subst hB
  have wn : -32768 ≤ n ∧ n < 32768 := wf_i16 wn
  have wk : -32768 ≤ k ∧ k < 32768 := wf_i16 wk
  obtain ⟨b1, e1, f1⟩ := rright_eq (neg := n1) (E := E) hl
  obtain ⟨b2, e2, f2⟩ := rright_eq (neg := n2) (E := G) hm
  unfold exerguelaw05_DecShifts
  rw [shown_eq, e1, e2]
  simp only [Option.bind_some]
  rw [w64 (n := n) (by omega) (by omega), w64 (n := k) (by omega) (by omega), w64 (n := 0 - n) (by omega) (by omega), w64 (n := n + k) (by omega) (by omega)]
  cases b1 with
  | false => rfl
  | true =>
  cases b2 with
  | false => rfl
  | true =>
    have r1 := f1.1 rfl
    have r2 := f2.1 rfl
    have l1 := right_low r1
    have l2 := right_low r2
    simp only [Bool.not_true, cond_false, Option.bind_some, joinX]
    rcases shift_eq (neg := n1) (n := n) l1.2.2 ⟨l1.1, l1.2.1⟩ (by omega) with ⟨g1, s1⟩ | ⟨g1, s1⟩
    · rcases shift_eq (neg := n2) (n := n) l2.2.2 ⟨l2.1, l2.2.1⟩ (by omega) with ⟨g2, s2⟩ | ⟨g2, s2⟩
      · have q1 := shift_right r1 g1
        have q2 := shift_right r2 g2
        have lq := right_low q1
        have hrow : exergueref01_Row (up l) (up l) = some (decide (up l = up l)) := row_eq (by rw [up_len]; omega)
        rw [s1, s2]
        simp only [Option.bind_some]
        have gb : inB l (shE l E n + (0 - n)) := by
          by_cases h0 : l = []
          · exact .inl h0
          · rw [shE, if_neg h0]; exact .inr (by omega)
        rcases shift_eq (neg := n1) (n := 0 - n) lq.2.2 ⟨lq.1, lq.2.1⟩ (by omega) with ⟨-, t1⟩ | ⟨g3, -⟩
        · rw [sh_sh, show n + (0 - n) = 0 by omega, sh_zero] at t1
          rw [t1, rright_true q1]
          simp only [Option.bind_some, not_true_eq_false, decide_false, cond_false, joinX]
          rw [rsame_eq r1 r1, cmp_eq q1 q2, cmp_eq r1 r2, shift_cmp r1 r2 g1 g2, hrow]
          have hio : inB l (shE l E n + k) ↔ inB l (E + (n + k)) := by
            by_cases h0 : l = []
            · exact ⟨fun _ => .inl h0, fun _ => .inl h0⟩
            · rw [shE, if_neg h0, show E + n + k = E + (n + k) by omega]
          rcases shift_eq (neg := n1) (n := k) lq.2.2 ⟨lq.1, lq.2.1⟩ (by omega) with ⟨g4, t2⟩ | ⟨g4, t2⟩
          · rcases shift_eq (neg := n1) (n := n + k) l1.2.2 ⟨l1.1, l1.2.1⟩ (by omega) with ⟨g5, t3⟩ | ⟨g5, t3⟩
            · rw [sh_sh] at t2
              have q5 := shift_right r1 g5
              rw [t2, t3]
              simp only [Option.bind_some]
              rw [rsame_eq q5 q5]
              simp
            · exact absurd (hio.1 g4) g5
          · rcases shift_eq (neg := n1) (n := n + k) l1.2.2 ⟨l1.1, l1.2.1⟩ (by omega) with ⟨g5, t3⟩ | ⟨g5, t3⟩
            · exact absurd (hio.2 g5) g4
            · have r0 : rightP [] 0 := ⟨(fun x hx => by cases hx), fun _ => rfl, fun h => absurd rfl h⟩
              have hs0 : exergueref05_Same ⟨false, [], 0⟩ ⟨false, [], 0⟩ = some (decide (false = false) && decide (magN [] 0 = magN [] 0)) := rsame_eq r0 r0
              rw [t2, t3]
              simp only [Option.bind_some]
              rw [hs0]
              simp
        · exact absurd gb g3
      · rw [s1, s2]; rfl
    · rcases shift_eq (neg := n2) (n := n) l2.2.2 ⟨l2.1, l2.2.1⟩ (by omega) with ⟨g2, s2⟩ | ⟨g2, s2⟩ <;> (rw [s1, s2]; rfl)

def laidD {H : Type} : List (String × DataW H) := [("math/bits.deBruijn32tab", Rows.laid_math_bits_deBruijn32tab), ("math/bits.deBruijn64tab", Rows.laid_math_bits_deBruijn64tab), ("internal/strconv.uint64pow10", Rows.laid_internal_strconv_uint64pow10)]
theorem door_met (os : Os) (args : Array Value) : laidMetH Tryd.prog laidD ((World.doorLaid Tryd.prog 4000 os).forCall (fun _ _ => 0) ⟨#[], args, []⟩).memory :=
  laidMetH_of_parts3 (fuel := 8) (laidMet_of_run' 8 (by kernel_rfl) (by kernel_rfl)) (by kernel_rfl) (by kernel_rfl)

set_option maxRecDepth 100000 in
theorem DecShifts_lifted (os : Os) (started : os.Started) (H : Type) (enc : TypeId × Value → H) :
    ReturnsInHanded {} Tryd.checked os 6 .any (fun w args => (Rows.decShiftsSpec.pre enc Tryd.prog Tryd.f6 [] false w args ∧ laidMetH Tryd.prog laidD w) ∧ sizedMet enc Tryd.prog Tryd.f6 (OpenSpec.ofChange Rows.decShiftsSpec) false w args) (Rows.decShiftsSpec.post enc Tryd.prog Tryd.f6 false true false false) := by
  refine returnsInHanded_of_change_and (C := Tryd.checked) (X := fun w _ => laidMetH Tryd.prog laidD w) (fun _ _ _ hh h => h.of_heap hh) Tryd.own started (by kernel_rfl) Tryd.func6
    (ChangeSpec.witness_shaped (enc := enc) (C := Tryd.checked) (os := os) (X := fun w _ => laidMetH Tryd.prog laidD w) false (World.doorLaid Tryd.prog 4000 os) #[.agg #[.bool false, .slice none 0 0, .int .i64 0, .bool false, .slice none 0 0, .int .i64 0, .int .i16 0, .int .i16 0]] 8 rfl (World.shaped_of_RefB (by kernel_rfl) (by kernel_rfl)) (by kernel_rfl) (by kernel_rfl) (by kernel_rfl) (door_met os _)) ?_
  intro W base args ds gs before hval0 hW _ hsz0 _ _
  have hsz : (DataW.weightsEach Tryd.prog (Tryd.f6.params.toList ++ Rows.decShiftsSpec.plain.varTypes Tryd.prog) (ds ++ gs)).all (· ≤ reachBytes) = true := hsz0
  clear hsz0
  refine law_post (P := Tryd.prog) (n := 4) (tb := 4) Tryd.laidOut Tryd.underlying4 rfl rfl (by kernel_rfl) (fun h => ?_) hval0 hW ?_
  · rw [Tryd.params6] at h
    obtain ⟨d0, rfl⟩ := l1 h
    exact ⟨rfl, rfl, rfl⟩
  · intro ss hg hl1 hl2 hs
    subst hg
    rw [Tryd.params6] at hl1 hl2 hs hsz
    obtain ⟨d0, rfl⟩ := l1 hl1
    obtain ⟨s0, rfl⟩ := l1 hl2
    obtain ⟨cs0, rfl, hc0⟩ := showsV_struct Tryd.underlying39 (hs 0 39 _ _ rfl rfl rfl)
    obtain ⟨a0, rfl, w0⟩ := tells_T39 (n := 0) _ _ hc0 (sized_param hsz (j := 0) rfl rfl)
    exact ⟨[], exerguelaw05_DecShifts_ok (Shifts_true a0 w0)⟩
theorem DecShifts_row : Rows.DecShiftsSaid :=
  OpenClaim.holds_of_wide 6 Tryd.f6 rfl rfl rfl rfl rfl rfl rfl ⟨rfl, rfl, rfl, rfl, rfl⟩ rfl rfl rfl rfl rfl (by kernel_rfl) Tryd.func6 (by kernel_rfl)
    (of_decide_eq_true (by kernel_rfl)) (by unfold Func.isWrapper; first | (rw [if_pos (by decide +kernel)]; kernel_rfl) | (rw [if_neg (by decide +kernel)]; exact ⟨rfl, rfl⟩))
    (fun os started H enc _ => DecShifts_lifted os started H enc)

theorem DecShifts_holds : Rows.DecShiftsCardSaid :=
  Claim7.holds_tied_plain_at .later [] [.data, .data, .data] true (true, "3e2925e46801c1751acadd99fa372b49543fdc724f41349b785ce6263b5b29b1") false
    DecShifts_row (fun _ h => by cases h) (by kernel_rfl) (fun _ h => by cases h) decShifts_row_tie rfl ⟨rfl, rfl⟩ (by kernel_rfl) rfl
    (fun f fn hf hfn => by
      obtain rfl : f = 6 := Option.some.inj ((show Tryd.prog.funcNamed "exergue/exerguelaw05.DecShifts" = some 6 by kernel_rfl).symm.trans hf) |>.symm
      obtain rfl : fn = Tryd.f6 := (Option.some.inj (Tryd.func6.symm.trans hfn)).symm
      exact ⟨by kernel_rfl, fun j t ht => by
        rw [Tryd.params6] at ht
        have hm : t ∈ [39] := by simpa using Array.mem_of_getElem? ht
        have hall : ([39].all fun u => !Tryd.prog.wantsStandIn u) = true := by kernel_rfl
        exact (show Tryd.prog.wantsStandIn t = false by simpa using List.all_eq_true.1 hall t hm)⟩)
    (by kernel_rfl)

end Go.Proofs.YtcldeecdhdcjdaaDoor
