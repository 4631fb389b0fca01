/-
  The statement DecNoughtCard is proved: at every input the law answers true, and its input reads as it did. Conditions: those of the card (package variables are as the program text lays them).
-/
import Derived.Test.YtcldeecdhdcjdaaDoorP
import Derived.Test.YtcldeecdhdcjdaaDoorCards
import Derived.Test.YtcldeecdhdcjdaaDoorTie
import Derived.ProofKit
import Derived.SizedLaws
import Derived.LaidMore
import Derived.SevenTiedAt
namespace Go.Proofs.YtcldeecdhdcjdaaDoor
open Go Go.Sy Go.RowKit Go.ChangeShapes Go.WideShapes Go.ChangeAt
set_option linter.unusedVariables false
set_option linter.unusedSimpArgs false
set_option maxRecDepth 100000

theorem Tryd.own : ownKnob Tryd.prog.godebug = none := by kernel_rfl
theorem Tryd.laidOut : laidOutB Tryd.prog = true := by kernel_rfl

theorem listN5 {α : Type} {l : List α} (h : l.length = 5) : ∃ a0 a1 a2 a3 a4, l = [a0, a1, a2, a3, a4] := by
  match l, h with
  | [a0, a1, a2, a3, a4], _ => exact ⟨a0, a1, a2, a3, a4, rfl⟩
/-- Its numbers are numbers of their kinds, its lists no longer than memory. -/
def WfSt47 (x : St47) : Prop := WfB x.Neg_ ∧ (WfL (WfI .u8)) x.L_ ∧ (WfI .i64) x.E_ ∧ (WfI .u8) x.N_ ∧ (WfI .u8) x.M_
theorem tells_T48 {n : Nat} : Tells Tryd.prog (n + 3) 48 encSt47 WfSt47 := fun d cs h hs => by
  have hl : cs.length = 5 := (shows_len Tryd.underlying48 h).trans (by kernel_rfl)
  obtain ⟨c0, c1, c2, c3, c4, rfl⟩ := listN5 hl
  obtain ⟨p0, h0, z0⟩ := shows_field Tryd.underlying48 h hs 0 4 [c0] (by kernel_rfl)
  obtain ⟨x0, e0, w0⟩ : ∃ x : Bool, [c0] = encB x ∧ WfB x := (tells_bool Tryd.underlying4) p0 _ h0 z0
  obtain ⟨p1, h1, z1⟩ := shows_field Tryd.underlying48 h hs 1 22 [c1] (by kernel_rfl)
  obtain ⟨x1, e1, w1⟩ : ∃ x : List Int, [c1] = (encL (encI .u8) 1) x ∧ (WfL (WfI .u8)) x := (tells_list (enc := (encI .u8)) (Wf := (WfI .u8)) Tryd.underlying22 (k := 1) (by kernel_rfl) (by kernel_rfl) (tells_int Tryd.underlying5)) p1 _ h1 z1
  obtain ⟨p2, h2, z2⟩ := shows_field Tryd.underlying48 h hs 2 3 [c2] (by kernel_rfl)
  obtain ⟨x2, e2, w2⟩ : ∃ x : Int, [c2] = (encI .i64) x ∧ (WfI .i64) x := (tells_int Tryd.underlying3) p2 _ h2 z2
  obtain ⟨p3, h3, z3⟩ := shows_field Tryd.underlying48 h hs 3 5 [c3] (by kernel_rfl)
  obtain ⟨x3, e3, w3⟩ : ∃ x : Int, [c3] = (encI .u8) x ∧ (WfI .u8) x := (tells_int Tryd.underlying5) p3 _ h3 z3
  obtain ⟨p4, h4, z4⟩ := shows_field Tryd.underlying48 h hs 4 5 [c4] (by kernel_rfl)
  obtain ⟨x4, e4, w4⟩ : ∃ x : Int, [c4] = (encI .u8) x ∧ (WfI .u8) x := (tells_int Tryd.underlying5) p4 _ h4 z4
  refine ⟨⟨x0, x1, x2, x3, x4⟩, ?_, ⟨w0, w1, w2, w3, w4⟩⟩
  show [c0] ++ [c1] ++ [c2] ++ [c3] ++ [c4] = (encB x0 ++ (encL (encI .u8) 1) x1 ++ (encI .i64) x2 ++ (encI .u8) x3 ++ (encI .u8) x4)
  rw [e0, e1, e2, e3, e4]
instance (l : List Nat) : Decidable (digP l) := inferInstanceAs (Decidable (∀ x ∈ l, x ≤ 9))
instance (l : List Nat) (E : Int) : Decidable (rightP l E) := by unfold rightP; exact inferInstance
theorem figs_eq {l : List Nat} (hl : l.length ≤ 100000) : dec_figures (up l) = some (decide (digP l)) := by
  unfold dec_figures
  rw [all_loop (fun c => decide (c > 9)) (up l) (by rw [up_len]; omega)]
  by_cases hd : digP l
  · rw [if_pos, dT hd]
    · rfl
    · rw [List.all_eq_true]
      intro c hc
      obtain ⟨x, hx, rfl⟩ := List.mem_map.1 hc
      have := hd x hx
      simp; omega
  · rw [if_neg, dF hd]
    · rfl
    · intro h
      apply hd
      intro x hx
      have := List.all_eq_true.1 h (x : Int) (List.mem_map.2 ⟨x, hx, rfl⟩)
      simp at this; omega
theorem dright_eq {l : List Nat} {E : Int} {neg : Bool} (hl : l.length ≤ 100000) : dec_Right ⟨neg, up l, E⟩ = some (decide (rightP l E)) := by
  unfold dec_Right
  rw [figs_eq hl]
  simp only [up_len]
  by_cases h0 : l = []
  · subst h0
    rw [dT (by simp)]
    have : (rightP [] E) ↔ E = 0 := ⟨fun h => h.2.1 rfl, fun h => ⟨fun x hx => (by cases hx), fun _ => h, fun h => absurd rfl h⟩⟩
    simp [this]
  · have hpos : 0 < l.length := List.length_pos_iff.2 h0
    have hin : inR 0 l.length = true := inR_int (by omega) (by omega)
    have hin2 : inR ((l.length : Int) - 1) l.length = true := inR_int (by omega) (by omega)
    have hh : (¬ nth (up l) 0 = 0) ↔ l.head? ≠ some 0 := by
      cases l with
      | nil => exact absurd rfl h0
      | cons x l => rw [up_head]; simp
    have hll : (¬ nth (up l) ((l.length : Int) - 1) = 0) ↔ l.getLast? ≠ some 0 := by
      rcases List.eq_nil_or_concat l with h1 | ⟨p, c, h1⟩
      · exact absurd h1 h0
      · rw [List.concat_eq_append] at h1
        subst h1
        have e : (((p ++ [c]).length : Nat) : Int) - 1 = (p.length : Int) := by simp
        rw [e, up_last]; simp
    rw [dF (show ¬ (l.length : Int) = 0 by omega), hin, w64 (by omega) (by omega), hin2]
    simp only [cond_false, cond_true]
    by_cases c1 : (l.length : Int) > 1000
    · rw [dT c1, dF (show ¬ rightP l E from fun h => by have := (h.2.2 h0).1; omega)]; rfl
    · rw [dF c1]
      by_cases c2 : E < -1000
      · rw [dT c2, dF (show ¬ rightP l E from fun h => by have := (h.2.2 h0).2.1; omega)]; rfl
      · rw [dF c2]
        by_cases c3 : E > 1000
        · rw [dT c3, dF (show ¬ rightP l E from fun h => by have := (h.2.2 h0).2.2.1; omega)]; rfl
        · rw [dF c3]
          by_cases c4 : ¬ nth (up l) 0 = 0
          · by_cases c5 : ¬ nth (up l) ((l.length : Int) - 1) = 0
            · rw [dT c4, dT c5]
              have : rightP l E ↔ digP l := ⟨fun h => h.1, fun h => ⟨h, fun e => absurd e h0, fun _ => ⟨by omega, by omega, by omega, hh.1 c4, hll.1 c5⟩⟩⟩
              simp [this, joinX]
            · rw [dT c4, dF c5, dF (show ¬ rightP l E from fun h => c5 (hll.2 (h.2.2 h0).2.2.2.2))]; rfl
          · rw [dF c4, dF (show ¬ rightP l E from fun h => c4 (hh.2 (h.2.2 h0).2.2.2.1))]; rfl
/-- A whole number of figures, without the noughts around. -/
theorem strip : ∀ z : List Nat, ∃ a b core, z = List.replicate a 0 ++ core ++ List.replicate b 0 ∧ (core = [] → b = 0) ∧ core.head? ≠ some 0 ∧ core.getLast? ≠ some 0 := by
  have lead : ∀ z : List Nat, ∃ a c, z = List.replicate a 0 ++ c ∧ c.head? ≠ some 0 := by
    intro z
    induction z with
    | nil => exact ⟨0, [], rfl, by simp⟩
    | cons x z ih =>
      by_cases hx : x = 0
      · obtain ⟨a, c, h1, h2⟩ := ih
        exact ⟨a + 1, c, by rw [hx, h1, List.replicate_succ]; rfl, h2⟩
      · exact ⟨0, x :: z, rfl, by simpa using hx⟩
  have trail : ∀ c : List Nat, c.head? ≠ some 0 → ∃ b core, c = core ++ List.replicate b 0 ∧ (core = [] → b = 0) ∧ core.head? ≠ some 0 ∧ core.getLast? ≠ some 0 := by
    refine nsnoc_ind (fun h => ⟨0, [], rfl, fun _ => rfl, h, by simp⟩) (fun l x ih h => ?_)
    by_cases hx : x = 0
    · subst hx
      have hl : l ≠ [] := fun e => h (by rw [e]; rfl)
      obtain ⟨b, core, h1, h2, h3, h4⟩ := ih (by cases l with | nil => exact absurd rfl hl | cons y l => simpa using h)
      refine ⟨b + 1, core, by rw [h1, List.append_assoc]; congr 1; rw [List.replicate_succ'], fun e => ?_, h3, h4⟩
      have := h2 e
      subst this; subst e
      exact absurd h1 hl
    · exact ⟨0, l ++ [x], by simp, by simp, h, by simpa using hx⟩
  intro z
  obtain ⟨a, c, h1, h2⟩ := lead z
  obtain ⟨b, core, h3, h4, h5, h6⟩ := trail c h2
  exact ⟨a, b, core, by rw [h1, h3, List.append_assoc], h4, h5, h6⟩
theorem norm_from {z : List Nat} {a : Nat} {c : List Nat} (hz : z = List.replicate a 0 ++ c) (hc : c.head? ≠ some 0) (hl : z.length ≤ 100000) :
    loopN (fun (s179 : Int) => (Option.bind (Option.bind (bif (decide (s179 < ((up z).length : Int))) then (bif inR s179 (up z).length then (some ((decide ((nth (up z) s179) = 0)))) else none) else (some false)) fun (s296 : Bool) => (bif s296 then (some (.inl ())) else (some (.inr (.inr s179))))) (joinX fun (s287 : Unit) => (some (.inl (IntKind.wrap .i64 (s179 + 1))))))) big 0 = some (a : Int) := by
  have hza : z.length = a + c.length := by rw [hz]; simp
  obtain ⟨o, h1, h2⟩ := loop_count (step := (fun (s179 : Int) => (Option.bind (Option.bind (bif (decide (s179 < ((up z).length : Int))) then (bif inR s179 (up z).length then (some ((decide ((nth (up z) s179) = 0)))) else none) else (some false)) fun (s296 : Bool) => (bif s296 then (some (.inl ())) else (some (.inr (.inr s179))))) (joinX fun (s287 : Unit) => (some (.inl (IntKind.wrap .i64 (s179 + 1)))))))) a (fun i => (i : Int)) (fun _ => True) (fun o => o = (a : Int)) (s0 := 0) rfl trivial (fun i hi _ => by
      left
      refine ⟨?_, trivial⟩
      have hn : nth (up z) (i : Int) = 0 := by
        rw [up_get (by omega), hz, List.getD_eq_getElem?_getD, List.getElem?_append_left (by simpa using hi)]
        simp [hi]
      simp only [up_len]
      rw [dT (by omega), inR_nat (by omega), hn, w64 (by omega) (by omega)]; rfl) (fun _ => by
      refine ⟨_, ?_, rfl⟩
      simp only [up_len]
      cases c with
      | nil => rw [dF (by simp at hza; omega)]; rfl
      | cons x c =>
        have hx : x ≠ 0 := fun e => hc (by rw [e]; rfl)
        have hn : nth (up z) (a : Int) = x := by
          rw [up_get (by simp at hza; omega), hz, List.getD_eq_getElem?_getD, List.getElem?_append_right (by simp)]
          simp
        rw [dT (by simp at hza; omega), inR_nat (by simp at hza; omega), hn]
        simp [hx, joinX]) (by omega)
  rw [h1, h2]
theorem norm_to {z : List Nat} {b f : Nat} {c : List Nat} (hz : z = c ++ List.replicate b 0) (hf : f ≤ c.length) (hc : f < c.length → c.getLast? ≠ some 0) (hb : c.length = f → b = 0) (hl : z.length ≤ 100000) :
    loopN (fun (s448 : Int) => (Option.bind (Option.bind (bif (decide ((f : Int) < s448)) then (bif inR (IntKind.wrap .i64 (s448 - 1)) (up z).length then (some ((decide (((nth (up z) (IntKind.wrap .i64 (s448 - 1)))) = 0)))) else none) else (some false)) fun (s565 : Bool) => (bif s565 then (some (.inl ())) else (some (.inr (.inr s448))))) (joinX fun (s556 : Unit) => (some (.inl (IntKind.wrap .i64 (s448 - 1))))))) big ((up z).length : Int) = some (c.length : Int) := by
  have hza : z.length = c.length + b := by rw [hz]; simp
  obtain ⟨o, h1, h2⟩ := loop_count (step := (fun (s448 : Int) => (Option.bind (Option.bind (bif (decide ((f : Int) < s448)) then (bif inR (IntKind.wrap .i64 (s448 - 1)) (up z).length then (some ((decide (((nth (up z) (IntKind.wrap .i64 (s448 - 1)))) = 0)))) else none) else (some false)) fun (s565 : Bool) => (bif s565 then (some (.inl ())) else (some (.inr (.inr s448))))) (joinX fun (s556 : Unit) => (some (.inl (IntKind.wrap .i64 (s448 - 1)))))))) b (fun i => (z.length : Int) - i) (fun _ => True) (fun o => o = (c.length : Int)) (s0 := ((up z).length : Int)) (by rw [up_len]; simp) trivial (fun i hi _ => by
      left
      refine ⟨?_, trivial⟩
      simp only [up_len]
      have hfc : f < c.length := by have := hb; omega
      obtain ⟨j, hj⟩ : ∃ j : Nat, (z.length : Int) - i - 1 = j := ⟨z.length - i - 1, by omega⟩
      have hn : nth (up z) (j : Int) = 0 := by
        rw [up_get (by omega), hz, List.getD_eq_getElem?_getD, List.getElem?_append_right (by omega)]
        rw [List.getElem?_replicate, if_pos (by omega)]; rfl
      rw [dT (by omega), w64 (by omega) (by omega), hj, inR_nat (by omega), hn]
      simp [joinX]; omega) (fun _ => by
      refine ⟨_, ?_, rfl⟩
      simp only [up_len]
      have e : (z.length : Int) - b = c.length := by omega
      rw [e]
      by_cases hfc : f < c.length
      · have hne := hc hfc
        rcases List.eq_nil_or_concat c with g | ⟨p, x, g⟩
        · subst g; simp at hfc
        · rw [List.concat_eq_append] at g
          subst g
          have hx : x ≠ 0 := fun e => hne (by simp [e])
          have hn : nth (up z) (p.length : Int) = x := by
            rw [up_get (by simp at hza; omega), hz, List.getD_eq_getElem?_getD, List.append_assoc, List.getElem?_append_right (by simp)]
            simp
          have e2 : (((p ++ [x]).length : Nat) : Int) - 1 = p.length := by simp
          rw [dT (by omega), w64 (by omega) (by omega), e2, inR_nat (by simp at hza; omega), hn]
          simp [hx, joinX]
      · rw [dF (by omega)]; rfl) (by omega)
  rw [h1, h2]
/-- What it is made to be. -/
def normV (neg : Bool) (core : List Nat) (E : Int) : St23 × Int :=
  if core = [] then (⟨neg, [], 0⟩, 0) else if rightP core E then (⟨neg, up core, E⟩, 0) else (⟨false, [], 0⟩, 11)
theorem norm_is {z core : List Nat} {a b : Nat} {e : Int} {neg : Bool} (hz : z = List.replicate a 0 ++ core ++ List.replicate b 0) (hcb : core = [] → b = 0) (hh : core.head? ≠ some 0) (ht : core.getLast? ≠ some 0)
    (hd : digP z) (hl : z.length ≤ 5000) (he : -3000000 ≤ e) (he2 : e ≤ 3000000) : dec_Norm neg (up z) e = some (normV neg core (e + b)) := by
  have hlen : z.length = a + core.length + b := by rw [hz]; simp [Nat.add_assoc]
  have hf := norm_from (z := z) (a := a) (c := core ++ List.replicate b 0) (by rw [hz, List.append_assoc]) (by
    cases core with
    | nil => rw [hcb rfl]; simp
    | cons x c => simpa using hh) (by omega)
  have hto := norm_to (z := z) (b := b) (f := a) (c := List.replicate a 0 ++ core) hz (by simp) (fun hlt => by
    have : core ≠ [] := by rintro rfl; simp at hlt
    rw [List.getLast?_append]
    cases hg : core.getLast? with
    | none => exact absurd (List.getLast?_eq_none_iff.1 hg) this
    | some v => rw [hg] at ht; simpa using ht) (fun h => hcb (by simpa using h)) (by omega)
  have hal : (List.replicate a 0 ++ core).length = a + core.length := by simp
  rw [hal] at hto
  unfold dec_Norm
  rw [figs_eq (by omega), dT hd, dF (show ¬ e < -1099511627776 by omega), dF (show ¬ e > 1099511627776 by omega), hf]
  simp only [Option.bind_some, Bool.not_true, cond_false, joinX]
  rw [hto]
  simp only [Option.bind_some]
  unfold normV
  by_cases h0 : core = []
  · subst h0
    rw [dT (by simp)]; rfl
  · have hpos : 0 < core.length := List.length_pos_iff.2 h0
    have hcut : cut (up z) (a : Int) ((a + core.length : Nat) : Int) = up core := by
      rw [cut_up]; congr 1
      rw [hz, ← hal, List.take_left, List.drop_left' (by simp)]
    have hin : inS (a : Int) ((a + core.length : Nat) : Int) (up z).length = true := inS_of (by omega) (by omega) (by rw [up_len]; omega)
    have hE : IntKind.wrap .i64 (IntKind.wrap .i64 (e + ((up z).length : Int)) - ((a + core.length : Nat) : Int)) = e + b := by
      rw [up_len, w64 (n := e + (z.length : Int)) (by omega) (by omega), w64 (by omega) (by omega)]; omega
    rw [dF (by omega), hin, hcut, hE, if_neg h0]
    have hcl : slices_Clone (up core) = some (up core) := clone_id (by rw [up_len]; omega)
    rw [hcl]
    simp only [Option.bind_some, cond_true, cond_false]
    rw [dright_eq (by omega)]
    by_cases hr : rightP core (e + b)
    · rw [dT hr, if_pos hr]; rfl
    · rw [dF hr, if_neg hr]; rfl
theorem norm_bad {z : List Nat} {e : Int} {neg : Bool} (hd : ¬ digP z) (hl : z.length ≤ 5000) : dec_Norm neg (up z) e = some (⟨false, [], 0⟩, 1) := by
  unfold dec_Norm
  rw [figs_eq (by omega), dF hd]; rfl
theorem rep_up (n : Nat) : rep (n : Int) (0 : Int) = up (List.replicate n 0) := by simp [rep, up]

theorem Nought_true (x : St47) (w : WfSt47 x) : exerguelaw05_DecNought x = some true := by
  obtain ⟨neg, L, e, N, M⟩ := x
  obtain ⟨_, w2, w3, w4, w5⟩ := w
  obtain ⟨l, rfl, _, hl⟩ := up_of w2
  have b1 := w2.1
  have w4 := wf_u8 w4
  have w5 := wf_u8 w5
  rw [up_len] at b1
  unfold exerguelaw05_DecNought
  rw [shown_eq]
  simp only [Option.bind_some, up_len]
  by_cases c1 : (l.length : Int) > 900
  · rw [dT c1]; rfl
  by_cases c2 : e < -1000000
  · rw [dF c1, dT c2]; rfl
  by_cases c3 : e > 1000000
  · rw [dF c1, dF c2, dT c3]; rfl
  rw [dF c1, dF c2, dF c3]
  obtain ⟨n, hn, hn40⟩ : ∃ n : Nat, IntKind.wrap .i64 (Int.tmod N 40) = n ∧ n < 40 := by
    have hN : 0 ≤ N := w4.1
    have := Int.tmod_eq_emod_of_nonneg hN (b := 40)
    rw [this, w64 (by omega) (by omega)]
    exact ⟨(N % 40).toNat, by omega, by omega⟩
  obtain ⟨m, hm, hm40⟩ : ∃ m : Nat, IntKind.wrap .i64 (Int.tmod M 40) = m ∧ m < 40 := by
    have hM : 0 ≤ M := w5.1
    have := Int.tmod_eq_emod_of_nonneg hM (b := 40)
    rw [this, w64 (by omega) (by omega)]
    exact ⟨(M % 40).toNat, by omega, by omega⟩
  rw [hn, hm, rep_up, rep_up, mk_of (by omega) (by omega) (by omega), ← up_append, ← up_append, up_len, up_len, room_of (by simp; omega), dT (show (0 : Int) ≤ m by omega), w64 (n := e - m) (by omega) (by omega)]
  have hrb : roomB ((List.replicate n 0 ++ l).length + (m : Int).toNat) = true := roomB_of (by simp; omega)
  rw [hrb]
  simp only [cond_false, cond_true, Option.bind_some, joinX, Bool.and_true]
  have hlx : (List.replicate n 0 ++ l ++ List.replicate m 0).length ≤ 5000 := by simp; omega
  by_cases hd : digP l
  · obtain ⟨a, b, core, hz, hcb, hh, ht⟩ := strip l
    have hdx : digP (List.replicate n 0 ++ l ++ List.replicate m 0) := by
      intro x hx
      rcases List.mem_append.1 hx with hx | hx
      · rcases List.mem_append.1 hx with hx | hx
        · rw [(List.mem_replicate.1 hx).2]; omega
        · exact hd x hx
      · rw [(List.mem_replicate.1 hx).2]; omega
    have e1 := norm_is (neg := neg) hz hcb hh ht hd (by omega) (e := e) (by omega) (by omega)
    have e2 : dec_Norm neg (up (List.replicate n 0 ++ l ++ List.replicate m 0)) (e - m) = some (normV neg core (e + b)) := by
      by_cases h0 : core = []
      · have hb := hcb h0
        subst h0; subst hb
        rw [norm_is (a := n + a + m) (b := 0) (core := []) (by rw [hz]; simp [List.replicate_append_replicate]) (fun _ => rfl) hh ht hdx hlx (by omega) (by omega)]
        simp [normV]
      · rw [norm_is (a := n + a) (b := b + m) (core := core) (by rw [hz]; simp [← List.replicate_append_replicate]) (fun h => absurd h h0) hh ht hdx hlx (by omega) (by omega)]
        congr 2; omega
    rw [e1, e2]
    simp only [Option.bind_some]
    unfold normV
    by_cases h0 : core = []
    · rw [if_pos h0]
      have hr : rightP [] 0 := ⟨fun x hx => (by cases hx), fun _ => rfl, fun h => absurd rfl h⟩
      have := rsame_eq (n1 := neg) (n2 := neg) hr hr
      have h2 := rright_true (neg := neg) hr
      simp only [up, List.map_nil] at this h2
      rw [this, h2]; simp
    · rw [if_neg h0]
      by_cases hr : rightP core (e + b)
      · rw [if_pos hr]
        simp only
        rw [rsame_eq hr hr, rright_true hr]; simp
      · rw [if_neg hr]
        have hr0 : rightP [] 0 := ⟨fun x hx => (by cases hx), fun _ => rfl, fun h => absurd rfl h⟩
        have := rsame_eq (n1 := false) (n2 := false) hr0 hr0
        simp only [up, List.map_nil] at this
        simp only
        rw [this]; simp
  · have hdx : ¬ digP (List.replicate n 0 ++ l ++ List.replicate m 0) := fun h => hd (dig_right (dig_left h))
    rw [norm_bad hd (by omega), norm_bad hdx hlx]
    have hr0 : rightP [] 0 := ⟨fun x hx => (by cases hx), fun _ => rfl, fun h => absurd rfl h⟩
    have := rsame_eq (n1 := false) (n2 := false) hr0 hr0
    simp only [up, List.map_nil] at this
    simp only [Option.bind_some]
    rw [this]; simp

def laidD {H : Type} : List (String × DataW H) := [("math/bits.deBruijn32tab", Rows.laid_math_bits_deBruijn32tab), ("math/bits.deBruijn64tab", Rows.laid_math_bits_deBruijn64tab), ("internal/strconv.uint64pow10", Rows.laid_internal_strconv_uint64pow10)]
theorem door_met (os : Os) (args : Array Value) : laidMetH Tryd.prog laidD ((World.doorLaid Tryd.prog 4000 os).forCall (fun _ _ => 0) ⟨#[], args, []⟩).memory :=
  laidMetH_of_parts3 (fuel := 8) (laidMet_of_run' 8 (by kernel_rfl) (by kernel_rfl)) (by kernel_rfl) (by kernel_rfl)

set_option maxRecDepth 100000 in
theorem DecNought_lifted (os : Os) (started : os.Started) (H : Type) (enc : TypeId × Value → H) :
    ReturnsInHanded {} Tryd.checked os 8 .any (fun w args => (Rows.decNoughtSpec.pre enc Tryd.prog Tryd.f8 [] false w args ∧ laidMetH Tryd.prog laidD w) ∧ sizedMet enc Tryd.prog Tryd.f8 (OpenSpec.ofChange Rows.decNoughtSpec) false w args) (Rows.decNoughtSpec.post enc Tryd.prog Tryd.f8 false true false false) := by
  refine returnsInHanded_of_change_and (C := Tryd.checked) (X := fun w _ => laidMetH Tryd.prog laidD w) (fun _ _ _ hh h => h.of_heap hh) Tryd.own started (by kernel_rfl) Tryd.func8
    (ChangeSpec.witness_shaped (enc := enc) (C := Tryd.checked) (os := os) (X := fun w _ => laidMetH Tryd.prog laidD w) false (World.doorLaid Tryd.prog 4000 os) #[.agg #[.bool false, .slice none 0 0, .int .i64 0, .int .u8 0, .int .u8 0]] 8 rfl (World.shaped_of_RefB (by kernel_rfl) (by kernel_rfl)) (by kernel_rfl) (by kernel_rfl) (by kernel_rfl) (door_met os _)) ?_
  intro W base args ds gs before hval0 hW _ hsz0 _ _
  have hsz : (DataW.weightsEach Tryd.prog (Tryd.f8.params.toList ++ Rows.decNoughtSpec.plain.varTypes Tryd.prog) (ds ++ gs)).all (· ≤ reachBytes) = true := hsz0
  clear hsz0
  refine law_post (P := Tryd.prog) (n := 3) (tb := 4) Tryd.laidOut Tryd.underlying4 rfl rfl (by kernel_rfl) (fun h => ?_) hval0 hW ?_
  · rw [Tryd.params8] at h
    obtain ⟨d0, rfl⟩ := l1 h
    exact ⟨rfl, rfl, rfl⟩
  · intro ss hg hl1 hl2 hs
    subst hg
    rw [Tryd.params8] at hl1 hl2 hs hsz
    obtain ⟨d0, rfl⟩ := l1 hl1
    obtain ⟨s0, rfl⟩ := l1 hl2
    obtain ⟨cs0, rfl, hc0⟩ := showsV_struct Tryd.underlying48 (hs 0 48 _ _ rfl rfl rfl)
    obtain ⟨a0, rfl, w0⟩ := tells_T48 (n := 0) _ _ hc0 (sized_param hsz (j := 0) rfl rfl)
    exact ⟨[], exerguelaw05_DecNought_ok (Nought_true a0 w0)⟩
theorem DecNought_row : Rows.DecNoughtSaid :=
  OpenClaim.holds_of_wide 8 Tryd.f8 rfl rfl rfl rfl rfl rfl rfl ⟨rfl, rfl, rfl, rfl, rfl⟩ rfl rfl rfl rfl rfl (by kernel_rfl) Tryd.func8 (by kernel_rfl)
    (of_decide_eq_true (by kernel_rfl)) (by unfold Func.isWrapper; first | (rw [if_pos (by decide +kernel)]; kernel_rfl) | (rw [if_neg (by decide +kernel)]; exact ⟨rfl, rfl⟩))
    (fun os started H enc _ => DecNought_lifted os started H enc)

theorem DecNought_holds : Rows.DecNoughtCardSaid :=
  Claim7.holds_tied_plain_at .later [] [.data, .data, .data] true (true, "3e2925e46801c1751acadd99fa372b49543fdc724f41349b785ce6263b5b29b1") false
    DecNought_row (fun _ h => by cases h) (by kernel_rfl) (fun _ h => by cases h) decNought_row_tie rfl ⟨rfl, rfl⟩ (by kernel_rfl) rfl
    (fun f fn hf hfn => by
      obtain rfl : f = 8 := Option.some.inj ((show Tryd.prog.funcNamed "exergue/exerguelaw05.DecNought" = some 8 by kernel_rfl).symm.trans hf) |>.symm
      obtain rfl : fn = Tryd.f8 := (Option.some.inj (Tryd.func8.symm.trans hfn)).symm
      exact ⟨by kernel_rfl, fun j t ht => by
        rw [Tryd.params8] at ht
        have hm : t ∈ [48] := by simpa using Array.mem_of_getElem? ht
        have hall : ([48].all fun u => !Tryd.prog.wantsStandIn u) = true := by kernel_rfl
        exact (show Tryd.prog.wantsStandIn t = false by simpa using List.all_eq_true.1 hall t hm)⟩)
    (by kernel_rfl)

end Go.Proofs.YtcldeecdhdcjdaaDoor
