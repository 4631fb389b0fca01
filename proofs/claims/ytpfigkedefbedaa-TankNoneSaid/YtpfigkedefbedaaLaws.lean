/-
  The statements TankParts, TankCounts, TankBurns, TankNone and TankFull are proved: at every input the law answers true, and its input reads as it did. No conditions.
-/
import Derived.Test.YtpfigkedefbedaaG
import Derived.Test.YtpfigkedefbedaaSyU
import Derived.Test.YtpfigkedefbedaaRows
import Derived.ProofKit
import Derived.SizedLaws
namespace Go.Proofs.Ytpfigkedefbedaa
open Go Go.Sy Go.RowKit Go.ChangeShapes Go.WideShapes Go.ChangeAt
set_option linter.unusedVariables false
set_option linter.unusedSimpArgs false
set_option maxRecDepth 100000

theorem Try.own : ownKnob Try.prog.godebug = none := by kernel_rfl
theorem Try.laidOut : laidOutB Try.prog = true := by kernel_rfl
theorem bytes_pos (e : TypeId) (h : Nat.blt 0 (Try.prog.bytesOf e) = true) : 0 < Try.prog.bytesOf e := by simpa [Nat.blt_eq] using h
/-- A list's length, bounded by what is in reach. -/
theorem reach_len {H T : Type} {ts : List TypeId} {ds : List (DataW H)} (h : (DataW.weightsEach Try.prog ts ds).all (· ≤ reachBytes) = true) {j : Nat} {t e : TypeId} {d : DataW H} (ht : ts[j]? = some t) (hd : ds[j]? = some d) (hu : Try.prog.underlying t = some (.slice e)) (hb : 0 < Try.prog.bytesOf e)
    {zs : List T} (hz : (d = .nil ∧ zs = []) ∨ ∃ elems rest, d = .slice elems rest ∧ elems.length = zs.length) : zs.length ≤ 140737488355328 := by
  rcases hz with ⟨_, rfl⟩ | ⟨elems, rest, rfl, eq0⟩
  · simp
  · have h1 := sized_slice h ht hd hu
    have h2 := reachBytes_lt
    have h3 : elems.length ≤ (elems.length + rest.length) * Try.prog.bytesOf e := Nat.le_trans (Nat.le_add_right _ _) (Nat.le_mul_of_pos_right _ hb)
    omega

theorem listN3 {α : Type} {l : List α} (h : l.length = 3) : ∃ a0 a1 a2, l = [a0, a1, a2] := by
  match l, h with
  | [a0, a1, a2], _ => exact ⟨a0, a1, a2, rfl⟩
/-- Its numbers are numbers of their kinds. -/
def WfSt23 (x : St23) : Prop := (fun z : Int => (Lit.int .i64 z).wf = true) x.Fuel_ ∧ (fun z : Int => (Lit.int .i64 z).wf = true) x.Room_ ∧ (fun zs : List Int => ∀ z ∈ zs, (fun z : Int => (Lit.int .i32 z).wf = true) z) x.Out_
theorem shows_T24 {H : Type} {n : Nat} {d : DataW H} {cs : List SV} (h : Shows Try.prog (n + 3) 24 d cs) : ∃ x : St23, cs = encSt23 x ∧ WfSt23 x := by
  have hl : cs.length = 3 := (shows_len Try.underlying24 h).trans (by kernel_rfl)
  obtain ⟨c0, c1, c2, rfl⟩ := listN3 hl
  obtain ⟨p0, h0⟩ := shows_field Try.underlying24 h 0 3 [c0] (by kernel_rfl)
  obtain ⟨x0, e0, w0⟩ : ∃ x : Int, [c0] = (encI .i64) x ∧ (fun z : Int => (Lit.int .i64 z).wf = true) x := (shows_el_int Try.underlying3 h0)
  obtain ⟨p1, h1⟩ := shows_field Try.underlying24 h 1 3 [c1] (by kernel_rfl)
  obtain ⟨x1, e1, w1⟩ : ∃ x : Int, [c1] = (encI .i64) x ∧ (fun z : Int => (Lit.int .i64 z).wf = true) x := (shows_el_int Try.underlying3 h1)
  obtain ⟨p2, h2⟩ := shows_field Try.underlying24 h 2 22 [c2] (by kernel_rfl)
  obtain ⟨x2, e2, w2⟩ : ∃ x : List Int, [c2] = (encL (encI .i32) 1) x ∧ (fun zs : List Int => ∀ z ∈ zs, (fun z : Int => (Lit.int .i32 z).wf = true) z) x := (shows_el_list (enc := (encI .i32)) (Wf := (fun z : Int => (Lit.int .i32 z).wf = true)) Try.underlying22 (k := 1) (by kernel_rfl) (fun _ _ h => (shows_el_int Try.underlying21 h)) h2)
  refine ⟨⟨x0, x1, x2⟩, ?_, ⟨w0, w1, w2⟩⟩
  show [c0] ++ [c1] ++ [c2] = ((encI .i64) x0 ++ (encI .i64) x1 ++ (encL (encI .i32) 1) x2)
  rw [e0, e1, e2]
/-- One row is put, rune by rune: how it ends. -/
def putL : Int → Int → List Int → List Int → St23 × Int
  | f, r, o, [] => (⟨f, r, o⟩, 0)
  | f, r, o, x :: xs => if f < 1 then (⟨0, r, o⟩, 4) else if r ≤ 0 then (⟨f - 1, r, o⟩, 5) else putL (f - 1) (r - 1) (o ++ [x]) xs

theorem putL_ok : ∀ (a : List Int) (f r : Int) (o : List Int), a.length ≤ f → a.length ≤ r → putL f r o a = (⟨f - a.length, r - a.length, o ++ a⟩, 0)
  | [], f, r, o, _, _ => by simp [putL]
  | x :: a, f, r, o, h1, h2 => by
    simp only [List.length_cons, Int.natCast_add, Int.natCast_one] at h1 h2
    simp only [putL]
    rw [if_neg (by omega), if_neg (by omega), putL_ok a _ _ _ (by omega) (by omega)]
    simp only [List.length_cons, Int.natCast_add, Int.natCast_one, List.append_assoc, List.singleton_append, Prod.mk.injEq, St23.mk.injEq, and_true]
    constructor <;> omega

theorem putL_fuel : ∀ (a : List Int) (f r : Int) (o : List Int), 0 ≤ f → f ≤ r → f < a.length → putL f r o a = (⟨0, r - f, o ++ a.take f.toNat⟩, 4)
  | [], f, r, o, h0, _, h2 => by simp at h2; omega
  | x :: a, f, r, o, h0, h1, h2 => by
    simp only [List.length_cons, Int.natCast_add, Int.natCast_one] at h2
    simp only [putL]
    by_cases hf : f < 1
    · have : f = 0 := by omega
      subst this
      simp
    · rw [if_neg hf, if_neg (by omega), putL_fuel a _ _ _ (by omega) (by omega) (by omega)]
      have h3 : f.toNat = (f - 1).toNat + 1 := by omega
      rw [h3, List.take_succ_cons]
      simp only [List.append_assoc, List.singleton_append, Prod.mk.injEq, St23.mk.injEq, and_true, true_and]
      omega

theorem putL_room : ∀ (a : List Int) (f r : Int) (o : List Int), 0 ≤ r → r < f → r < a.length → putL f r o a = (⟨f - r - 1, 0, o ++ a.take r.toNat⟩, 5)
  | [], f, r, o, h0, _, h2 => by simp at h2; omega
  | x :: a, f, r, o, h0, h1, h2 => by
    simp only [List.length_cons, Int.natCast_add, Int.natCast_one] at h2
    simp only [putL]
    rw [if_neg (by omega)]
    by_cases hr : r ≤ 0
    · have : r = 0 := by omega
      subst this
      simp
    · rw [if_neg hr, putL_room a _ _ _ (by omega) (by omega) (by omega)]
      have h3 : r.toNat = (r - 1).toNat + 1 := by omega
      rw [h3, List.take_succ_cons]
      simp only [List.append_assoc, List.singleton_append, Prod.mk.injEq, St23.mk.injEq, and_true, true_and]
      omega

theorem own_eq {x : St23} {n : Int} (h0 : 0 ≤ n) (h1 : x.Out_.length + n ≤ 4294967296) : tank_own x n = some x := by
  unfold tank_own
  rw [w64 (by omega) (by omega), mk_of (by omega) (by omega) (by omega), over_rep]
  rfl

theorem same1_eq {xs ys : List Int} (h : xs.length ≤ 4611686018427387904) (h' : ys.length ≤ 4611686018427387904) : exergueref01_Same xs ys = some (decide (xs = ys)) := by
  unfold exergueref01_Same
  by_cases hl : xs.length = ys.length
  · rw [dF (by omega), same_loop hl h]
    by_cases he : xs = ys
    · rw [if_pos he, dT he]; rfl
    · rw [if_neg he, dF he]; rfl
  · rw [dT (by omega), dF (fun e => hl (by rw [e]))]; rfl

theorem same4_eq {x y : St23} (h : x.Out_.length ≤ 4611686018427387904) (h' : y.Out_.length ≤ 4611686018427387904) : exergueref04_Same x y = some (decide (x = y)) := by
  unfold exergueref04_Same
  rw [same1_eq h h']
  obtain ⟨a, b, c⟩ := x
  obtain ⟨d, e, f⟩ := y
  simp only [Option.bind_some, St23.mk.injEq]
  by_cases h1 : c = f <;> by_cases h2 : a = d <;> by_cases h3 : b = e <;> simp [h1, h2, h3]

theorem put_eq {x : St23} {a : List Int} (hf : -9223372036854775808 ≤ x.Fuel_ ∧ x.Fuel_ ≤ 9223372036854775807) (hr : -9223372036854775808 ≤ x.Room_ ∧ x.Room_ ≤ 9223372036854775807) (hl : x.Out_.length + a.length ≤ 4294967296) :
    tank_Put x a = some (putL x.Fuel_ x.Room_ x.Out_ a) := by
  unfold tank_Put
  rw [own_eq (by omega) (by omega)]
  simp only [Option.bind_some]
  generalize hst : (fun (s78 : Int × Int × Int × (List Int)) => (bif (decide (s78.1 < (a.length : Int))) then (bif inR s78.1 a.length then (Option.bind (tank_burn (⟨s78.2.1, s78.2.2.1, s78.2.2.2⟩ : St23) 1) fun y129 => (bif (decide (¬ y129.2 = 0)) then (some (.inr (.inr (y129.1, y129.2)))) else (bif (decide (y129.1.Room_ ≤ 0)) then (some (.inr (.inr (y129.1, 5)))) else (bif room (y129.1.Out_.length + ([(nth a s78.1)] : List Int).length) then (some (.inl ((IntKind.wrap .i64 (s78.1 + 1)), y129.1.Fuel_, (IntKind.wrap .i64 (y129.1.Room_ - 1)), (y129.1.Out_ ++ ([(nth a s78.1)] : List Int))))) else none)))) else none) else (some (.inr (.inl (s78.2.1, s78.2.2.1, s78.2.2.2)))) : Option ((Int × Int × Int × (List Int)) ⊕ ((Int × Int × (List Int)) ⊕ (St23 × Int))))) = step
  obtain ⟨o, h1, h2⟩ := loopN_run (step := step)
    (fun s => ∃ i : Nat, s.1 = i ∧ i ≤ a.length ∧ putL s.2.1 s.2.2.1 s.2.2.2 (a.drop i) = putL x.Fuel_ x.Room_ x.Out_ a ∧ (-9223372036854775808 ≤ s.2.1 ∧ s.2.1 ≤ 9223372036854775807) ∧ (-9223372036854775808 ≤ s.2.2.1 ∧ s.2.2.1 ≤ 9223372036854775807) ∧ s.2.2.2.length = x.Out_.length + i)
    (fun s => a.length - s.1.toNat) (fun o => match o with
      | .inl t => putL x.Fuel_ x.Room_ x.Out_ a = (⟨t.1, t.2.1, t.2.2⟩, 0)
      | .inr t => putL x.Fuel_ x.Room_ x.Out_ a = t) (fun s hs => by
      obtain ⟨s1, f, r, o⟩ := s
      obtain ⟨i, hi0, hi, hp, hf', hr', ho⟩ := hs
      simp only at hi0 hp hf' hr' ho
      subst hi0
      subst hst
      rcases Nat.lt_or_ge i a.length with h | h
      · rw [List.drop_eq_getElem_cons h] at hp
        simp only [putL] at hp
        simp only
        rw [dT (show (i : Int) < a.length by omega), inR_nat h, nth_nat h]
        unfold tank_burn
        simp only [cond_true]
        by_cases h3 : f < 1
        · rw [if_pos h3] at hp
          refine .inr ⟨.inr (⟨0, r, o⟩, 4), ?_, hp.symm⟩
          rw [dT h3]; rfl
        · rw [if_neg h3] at hp
          rw [dF h3, w64 (by omega) (by omega)]
          by_cases h4 : r ≤ 0
          · rw [if_pos h4] at hp
            refine .inr ⟨.inr (⟨f - 1, r, o⟩, 5), ?_, hp.symm⟩
            simp [h4]
          · rw [if_neg h4] at hp
            refine .inl ⟨((i : Int) + 1, f - 1, r - 1, o ++ [a[i]]), ?_, ⟨i + 1, rfl, by omega, hp, ⟨by simp only; omega, by simp only; omega⟩, ⟨by simp only; omega, by simp only; omega⟩, by simp [ho]; omega⟩, by simp only; omega⟩
            have hw1 : IntKind.wrap .i64 ((i : Int) + 1) = i + 1 := w64 (by omega) (by omega)
            have hw2 : IntKind.wrap .i64 (r - 1) = r - 1 := w64 (by omega) (by omega)
            have hrm : room (o.length + 1) = true := room_of (by omega)
            simp [h4, hw1, hw2, hrm]
      · rw [List.drop_eq_nil_of_le h] at hp
        simp only [putL] at hp
        refine .inr ⟨.inl (f, r, o), ?_, hp.symm⟩
        simp only
        rw [dF (by omega)]; rfl)
    big (0, x.Fuel_, x.Room_, x.Out_) ⟨0, rfl, by omega, by simp, hf, hr, by simp⟩ (big_pos (by simp only; omega))
  rw [h1]
  cases o with
  | inl t => simp only [Option.bind_some, joinX]; rw [h2]
  | inr t => simp only [Option.bind_some, joinX]; rw [h2]

theorem shown_eq : exerguelaw04_shown = some true := by kernel_rfl
theorem right_eq {x : St23} : exergueref04_Right x = some (decide (0 ≤ x.Fuel_ ∧ 0 ≤ x.Room_ ∧ x.Out_.length ≤ 1000)) := by
  unfold exergueref04_Right
  by_cases h1 : 0 ≤ x.Fuel_ <;> by_cases h2 : 0 ≤ x.Room_ <;> by_cases h3 : x.Out_.length ≤ 1000 <;> simp [h1, h2, h3] <;> omega

/-- How a row that is put ends. -/
theorem putL_ends (f r : Int) (o a : List Int) (hf : 0 ≤ f) (hr : 0 ≤ r) :
    (a.length ≤ f ∧ a.length ≤ r ∧ putL f r o a = (⟨f - a.length, r - a.length, o ++ a⟩, 0)) ∨
    (f ≤ r ∧ f < a.length ∧ putL f r o a = (⟨0, r - f, o ++ a.take f.toNat⟩, 4)) ∨
    (r < f ∧ r < a.length ∧ putL f r o a = (⟨f - r - 1, 0, o ++ a.take r.toNat⟩, 5)) := by
  by_cases h1 : a.length ≤ f ∧ a.length ≤ r
  · exact .inl ⟨h1.1, h1.2, putL_ok a f r o h1.1 h1.2⟩
  · by_cases h2 : f ≤ r
    · exact .inr (.inl ⟨h2, by omega, putL_fuel a f r o hf h2 (by omega)⟩)
    · exact .inr (.inr ⟨by omega, by omega, putL_room a f r o hr (by omega) (by omega)⟩)

theorem Counts_true (x : St23) (w : WfSt23 x) (a : List Int) (wa : ∀ z ∈ a, (Lit.int .i32 z).wf = true) (la : a.length ≤ 140737488355328) : exerguelaw04_TankCounts x a = some true := by
  obtain ⟨w1, w2, _⟩ := w
  have w1 := wf_i64 w1
  have w2 := wf_i64 w2
  unfold exerguelaw04_TankCounts
  rw [shown_eq, right_eq]
  simp only [Option.bind_some]
  by_cases hR : 0 ≤ x.Fuel_ ∧ 0 ≤ x.Room_ ∧ x.Out_.length ≤ 1000
  · by_cases hl : a.length ≤ 1000
    · rw [put_eq (by omega) (by omega) (by omega)]
      obtain ⟨f, r, o⟩ := x
      simp only at *
      rcases putL_ends f r o a hR.1 hR.2.1 with ⟨h1, h2, h3⟩ | ⟨h1, h2, h3⟩ | ⟨h1, h2, h3⟩
      · have e1 : IntKind.wrap .i64 (f - a.length) = f - a.length := w64 (by omega) (by omega)
        have e2 : IntKind.wrap .i64 (r - a.length) = r - a.length := w64 (by omega) (by omega)
        have e3 : IntKind.wrap .i64 ((o.length : Int) + a.length) = o.length + a.length := w64 (by omega) (by omega)
        have g1 : ¬ (1000 : Int) < a.length := by omega
        simp [hR, g1, h3, h1, h2, e1, e2, e3, joinX]
      · have g1 : ¬ (1000 : Int) < a.length := by omega
        have g2 : ¬ (a.length : Int) ≤ f := by omega
        simp [hR, g1, g2, h3, h1, h2, joinX]
      · have g1 : ¬ (1000 : Int) < a.length := by omega
        have g2 : ¬ (a.length : Int) ≤ r := by omega
        by_cases g3 : (a.length : Int) ≤ f <;> simp [hR, g1, g2, g3, h3, h1, h2, joinX]
    · have g1 : (1000 : Int) < a.length := by omega
      simp [hR, g1, joinX]
  · simp [hR, joinX]

theorem Full_true (x : St23) (w : WfSt23 x) (a : List Int) (wa : ∀ z ∈ a, (Lit.int .i32 z).wf = true) (la : a.length ≤ 140737488355328) : exerguelaw04_TankFull x a = some true := by
  obtain ⟨w1, w2, _⟩ := w
  have w1 := wf_i64 w1
  have w2 := wf_i64 w2
  unfold exerguelaw04_TankFull
  rw [shown_eq, right_eq]
  simp only [Option.bind_some]
  by_cases hR : 0 ≤ x.Fuel_ ∧ 0 ≤ x.Room_ ∧ x.Out_.length ≤ 1000
  · by_cases hl : a.length ≤ 1000 ∧ x.Fuel_ ≤ 1000000 ∧ x.Room_ ≤ 1000000
    · obtain ⟨f, r, o⟩ := x
      simp only at *
      rw [w64 (by omega) (by omega), w64 (by omega) (by omega), put_eq (by simp only; omega) (by simp only; omega) (by simp only; omega), put_eq (x := ⟨f + 1, r + 1, o⟩) (by simp only; omega) (by simp only; omega) (by simp only; omega)]
      have g1 : ¬ (1000 : Int) < a.length := by omega
      have g2 : ¬ (1000000 : Int) < f := by omega
      have g3 : ¬ (1000000 : Int) < r := by omega
      simp only
      rcases putL_ends f r o a hR.1 hR.2.1 with ⟨h1, h2, h3⟩ | ⟨h1, h2, h3⟩ | ⟨h1, h2, h3⟩ <;>
      rcases putL_ends (f + 1) (r + 1) o a (by omega) (by omega) with ⟨k1, k2, k3⟩ | ⟨k1, k2, k3⟩ | ⟨k1, k2, k3⟩ <;> first | (exfalso; omega) | skip
      · rw [h3, k3]
        have e1 : IntKind.wrap .i64 (f + 1 - a.length - 1) = f - a.length := by rw [w64 (by omega) (by omega)]; omega
        have e2 : IntKind.wrap .i64 (r + 1 - a.length - 1) = r - a.length := by rw [w64 (by omega) (by omega)]; omega
        have hs := same4_eq (x := ⟨f - a.length, r - a.length, o ++ a⟩) (y := ⟨f - a.length, r - a.length, o ++ a⟩) (by simp; omega) (by simp; omega)
        simp [hR, g1, g2, g3, joinX, e1, e2, hs]
      · rw [h3, k3]
        simp [hR, g1, g2, g3, joinX]
        omega
      · rw [h3, k3]
        simp [hR, g1, g2, g3, joinX]
        omega
      · rw [h3, k3]
        simp [hR, g1, g2, g3, joinX]
        omega
      · rw [h3, k3]
        simp [hR, g1, g2, g3, joinX]
        omega
    · by_cases g1 : (1000 : Int) < a.length
      · simp [hR, g1, joinX]
      · by_cases g2 : (1000000 : Int) < x.Fuel_
        · simp [hR, g1, g2, joinX]
        · have g3 : (1000000 : Int) < x.Room_ := by omega
          simp [hR, g1, g2, g3, joinX]
  · simp [hR, joinX]

theorem new_eq (a b : Int) : tank_New a b = some (if a < 0 ∨ b < 0 then (⟨0, 0, []⟩, 1) else (⟨a, b, []⟩, 0)) := by
  unfold tank_New
  by_cases h1 : a < 0 <;> by_cases h2 : b < 0 <;> simp [h1, h2, joinX]

theorem None_true (x : St23) (w : WfSt23 x) (a : Int) (wa : (Lit.int .i64 a).wf = true) (b : Int) (wb : (Lit.int .i64 b).wf = true) : exerguelaw04_TankNone x a b = some true := by
  obtain ⟨w1, w2, _⟩ := w
  have w1 := wf_i64 w1
  have w2 := wf_i64 w2
  unfold exerguelaw04_TankNone
  rw [shown_eq, right_eq]
  simp only [Option.bind_some]
  by_cases hR : 0 ≤ x.Fuel_ ∧ 0 ≤ x.Room_ ∧ x.Out_.length ≤ 1000
  · rw [put_eq (by omega) (by omega) (by simp; omega), new_eq]
    have hs := same4_eq (x := x) (y := x) (by omega) (by omega)
    have h0 : putL x.Fuel_ x.Room_ x.Out_ [] = (x, 0) := rfl
    rw [h0]
    by_cases hab : a < 0 ∨ b < 0
    · have hz := same4_eq (x := ⟨0, 0, []⟩) (y := ⟨0, 0, []⟩) (by simp) (by simp)
      by_cases ha : a < 0 <;> by_cases hb : b < 0 <;> first | (exfalso; omega) | simp [hR, hs, hz, ha, hb, joinX]
    · have ha : ¬ a < 0 := by omega
      have hb : ¬ b < 0 := by omega
      simp [hR, hs, ha, hb, joinX]
  · simp [hR]

theorem burn_eq {x : St23} {n : Int} (hl : x.Out_.length ≤ 4294967296) (h0 : 0 ≤ n) (hn : n ≤ 9223372036854775807) (hf : 0 ≤ x.Fuel_) (hf' : x.Fuel_ ≤ 9223372036854775807) : tank_Burn x n = some (if x.Fuel_ < n then (⟨0, x.Room_, x.Out_⟩, 4) else (⟨x.Fuel_ - n, x.Room_, x.Out_⟩, 0)) := by
  unfold tank_Burn
  rw [own_eq (by omega) (by omega)]
  simp only [Option.bind_some]
  rw [dF (by omega)]
  simp only [cond_false]
  unfold tank_burn
  by_cases h : x.Fuel_ < n
  · rw [dT h, if_pos h]; rfl
  · rw [dF h, if_neg h, w64 (by omega) (by omega)]; rfl

theorem Parts_true (x : St23) (w : WfSt23 x) (a : List Int) (wa : ∀ z ∈ a, (Lit.int .i32 z).wf = true) (la : a.length ≤ 140737488355328) (b : List Int) (wb : ∀ z ∈ b, (Lit.int .i32 z).wf = true) (lb : b.length ≤ 140737488355328) : exerguelaw04_TankParts x a b = some true := by
  obtain ⟨w1, w2, _⟩ := w
  have w1 := wf_i64 w1
  have w2 := wf_i64 w2
  unfold exerguelaw04_TankParts
  rw [shown_eq, right_eq]
  simp only [Option.bind_some]
  have e0 : IntKind.wrap .i64 ((a.length : Int) + b.length) = a.length + b.length := w64 (by omega) (by omega)
  rw [e0]
  by_cases hR : 0 ≤ x.Fuel_ ∧ 0 ≤ x.Room_ ∧ x.Out_.length ≤ 1000
  · by_cases hl : a.length + b.length ≤ 1000
    · obtain ⟨f, r, o⟩ := x
      simp only at *
      have g1 : ¬ (1000 : Int) < a.length + b.length := by omega
      have g2 : room a.length = true := room_of (by omega)
      have g3 : room (a.length + b.length) = true := room_of (by omega)
      have g4 : room o.length = true := room_of (by omega)
      have hab : (a ++ b).length = a.length + b.length := List.length_append
      rw [put_eq (x := ⟨f, r, o⟩) (a := a ++ b) (by simp only; omega) (by simp only; omega) (by simp only; omega), put_eq (x := ⟨f, r, o⟩) (a := a) (by simp only; omega) (by simp only; omega) (by simp only; omega)]
      simp only
      -- both ways come to the same
      have key : ∃ (t : St23) (e : Int) (k : Nat), putL f r o (a ++ b) = (t, e) ∧ t.Out_ = o ++ (a ++ b).take k ∧ k ≤ (a ++ b).length ∧ (e = 0 ↔ k = (a ++ b).length) ∧
          ((putL f r o a).2 = 0 → tank_Put (putL f r o a).1 b = some (t, e)) ∧ ((putL f r o a).2 ≠ 0 → putL f r o a = (t, e)) := by
        rcases putL_ends f r o (a ++ b) hR.1 hR.2.1 with ⟨h1, h2, h3⟩ | ⟨h1, h2, h3⟩ | ⟨h1, h2, h3⟩ <;> rw [h3]
        · refine ⟨_, _, (a ++ b).length, rfl, by rw [List.take_length], Nat.le_refl _, by simp, fun h => ?_, fun h => ?_⟩
          · rw [putL_ok a f r o (by omega) (by omega)]
            rw [put_eq (by simp only; omega) (by simp only; omega) (by simp only [List.length_append]; omega)]
            simp only
            rw [putL_ok b _ _ _ (by omega) (by omega)]
            simp only [Option.some.injEq, Prod.mk.injEq, St23.mk.injEq, List.append_assoc, and_true]
            omega
          · rw [putL_ok a f r o (by omega) (by omega)] at h
            exact absurd rfl h
        · refine ⟨_, _, f.toNat, rfl, rfl, by omega, by simp; omega, fun h => ?_, fun h => ?_⟩
          · rcases putL_ends f r o a hR.1 hR.2.1 with ⟨k1, k2, k3⟩ | ⟨k1, k2, k3⟩ | ⟨k1, k2, k3⟩
            · rw [k3, put_eq (by simp only; omega) (by simp only; omega) (by simp only [List.length_append]; omega)]
              simp only
              rw [putL_fuel b _ _ _ (by omega) (by omega) (by omega)]
              have : (f - a.length).toNat = f.toNat - a.length := by omega
              rw [this, List.take_append, List.take_of_length_le (show a.length ≤ f.toNat by omega)]
              simp only [Option.some.injEq, Prod.mk.injEq, St23.mk.injEq, List.append_assoc, and_true, true_and]
              omega
            · rw [k3] at h; simp at h
            · rw [k3] at h; simp at h
          · rcases putL_ends f r o a hR.1 hR.2.1 with ⟨k1, k2, k3⟩ | ⟨k1, k2, k3⟩ | ⟨k1, k2, k3⟩
            · rw [k3] at h; simp at h
            · rw [k3, List.take_append, show f.toNat - a.length = 0 by omega]; simp
            · omega
        · refine ⟨_, _, r.toNat, rfl, rfl, by omega, by simp; omega, fun h => ?_, fun h => ?_⟩
          · rcases putL_ends f r o a hR.1 hR.2.1 with ⟨k1, k2, k3⟩ | ⟨k1, k2, k3⟩ | ⟨k1, k2, k3⟩
            · rw [k3, put_eq (by simp only; omega) (by simp only; omega) (by simp only [List.length_append]; omega)]
              simp only
              rw [putL_room b _ _ _ (by omega) (by omega) (by omega)]
              have : (r - a.length).toNat = r.toNat - a.length := by omega
              rw [this, List.take_append, List.take_of_length_le (show a.length ≤ r.toNat by omega)]
              simp only [Option.some.injEq, Prod.mk.injEq, St23.mk.injEq, List.append_assoc, and_true, true_and]
              omega
            · rw [k3] at h; simp at h
            · rw [k3] at h; simp at h
          · rcases putL_ends f r o a hR.1 hR.2.1 with ⟨k1, k2, k3⟩ | ⟨k1, k2, k3⟩ | ⟨k1, k2, k3⟩
            · rw [k3] at h; simp at h
            · omega
            · rw [k3, List.take_append, show r.toNat - a.length = 0 by omega]; simp
      obtain ⟨t, e, k, q1, q2, q3, q4, q5, q6⟩ := key
      have hlen : t.Out_.length = o.length + k := by rw [q2, List.length_append, List.length_take]; omega
      have hsub : IntKind.wrap .i64 ((t.Out_.length : Int) - o.length) = k := by rw [w64 (by omega) (by omega), hlen]; omega
      have hadd : IntKind.wrap .i64 ((o.length : Int) + (a ++ b).length) = o.length + (a ++ b).length := w64 (by omega) (by omega)
      have hs4 := same4_eq (x := t) (y := t) (by omega) (by omega)
      have hcut : cut (a ++ b) 0 (k : Int) = (a ++ b).take k := by simp [cut]
      have hin : inS 0 (k : Int) (a ++ b).length = true := inS_of (by omega) (by omega) (by omega)
      have hroom : room (o.length + ((a ++ b).take k).length) = true := room_of (by rw [List.length_take]; omega)
      have hs1 : exergueref01_Same t.Out_ (o ++ (a ++ b).take k) = some true := by rw [same1_eq (by omega) (by rw [← q2]; omega), q2]; simp
      have hmid : (bif (decide ((putL f r o a).2 = 0)) then (Option.bind (tank_Put (putL f r o a).1 b) fun y73 => (some (y73.2, y73.1.Fuel_, y73.1.Room_, y73.1.Out_))) else (some ((putL f r o a).2, (putL f r o a).1.Fuel_, (putL f r o a).1.Room_, (putL f r o a).1.Out_))) = some (e, t.Fuel_, t.Room_, t.Out_) := by
        by_cases h : (putL f r o a).2 = 0
        · rw [q5 h]; simp [h]
        · have q := q6 h
          rw [q] at h ⊢; simp at h; simp [h]
      have g5 : ¬ ((t.Out_.length : Int) < o.length) := by omega
      have g6 : ¬ ((o.length : Int) + (a ++ b).length < t.Out_.length) := by omega
      have hc0 : (decide (0 ≤ f ∧ 0 ≤ r ∧ o.length ≤ 1000)) = true := dT hR
      rw [hc0]
      simp only [Bool.not_true, cond_false, Option.bind_some, joinX]
      rw [dF (by omega)]
      simp only [cond_false, joinX, g2, g3, cond_true]
      rw [hmid]
      simp only [Option.bind_some, q1]
      rw [hs4]
      simp only [Option.bind_some, hadd, hsub, joinX, not_true_eq_false, decide_false, decide_true, Bool.not_true, cond_false, cond_true]
      rw [dF g5, dF (show ¬ ((t.Out_.length : Int) > o.length + (a ++ b).length) by omega)]
      simp only [Bool.not_true, cond_false, Option.bind_some, joinX, g4, hin, hcut, hroom, hs1, cond_true]
      by_cases he : e = 0
      · have := q4.1 he
        rw [dF (by simpa using he), dF (by omega)]; rfl
      · have hk : k ≠ (a ++ b).length := fun h => he (q4.2 h)
        rw [dT he, dT (by omega)]; rfl
    · have g1 : (1000 : Int) < a.length + b.length := by omega
      simp [hR, g1, joinX]
  · simp [hR, joinX]

theorem Burns_true (x : St23) (w : WfSt23 x) (a : Int) (wa : (Lit.int .u16 a).wf = true) (b : Int) (wb : (Lit.int .u16 b).wf = true) : exerguelaw04_TankBurns x a b = some true := by
  obtain ⟨w1, w2, _⟩ := w
  have w1 := wf_i64 w1
  have w2 := wf_i64 w2
  have wa : 0 ≤ a ∧ a < 4294967296 := by
    simp [Lit.wf, IntKind.min, IntKind.max, IntKind.signed, IntKind.bits] at wa; omega
  have wb : 0 ≤ b ∧ b < 4294967296 := by
    simp [Lit.wf, IntKind.min, IntKind.max, IntKind.signed, IntKind.bits] at wb; omega
  unfold exerguelaw04_TankBurns
  rw [shown_eq, right_eq]
  simp only [Option.bind_some]
  by_cases hR : 0 ≤ x.Fuel_ ∧ 0 ≤ x.Room_ ∧ x.Out_.length ≤ 1000
  · obtain ⟨f, r, o⟩ := x
    simp only at *
    rw [w64 (n := a) (by omega) (by omega), w64 (n := b) (by omega) (by omega), w64 (n := a + b) (by omega) (by omega)]
    rw [burn_eq (by simp only; omega) (by omega) (by omega) (by simp only; omega) (by simp only; omega), burn_eq (by simp only; omega) (by omega) (by omega) (by simp only; omega) (by simp only; omega)]
    have hs : ∀ f : Int, exergueref04_Same ⟨f, r, o⟩ ⟨f, r, o⟩ = some true := fun f => by rw [same4_eq (by simp only; omega) (by simp only; omega)]; simp
    simp only
    by_cases h1 : f < a
    · have h2 : f < a + b := by omega
      have h3 : ¬ a + b ≤ f := by omega
      simp [hR, h1, h2, h3, hs]
    · have hb := burn_eq (x := ⟨f - a, r, o⟩) (n := b) (by simp only; omega) (by omega) (by omega) (by simp only; omega) (by simp only; omega)
      simp only at hb
      by_cases h2 : f < a + b
      · have h3 : ¬ a + b ≤ f := by omega
        have h4 : f - a < b := by omega
        simp [hR, h1, h2, h3, h4, hs, hb]
      · have h3 : a + b ≤ f := by omega
        have h4 : ¬ f - a < b := by omega
        have h5 : f - a - b = f - (a + b) := by omega
        simp [hR, h1, h2, h3, h4, h5, hs, hb]
  · simp [hR]

set_option maxRecDepth 100000 in
theorem TankParts_lifted (os : Os) (started : os.Started) (H : Type) (enc : TypeId × Value → H) :
    ReturnsInHanded {} Try.checked os 3 .any (Rows.tankPartsSpec.pre6 enc Try.prog Try.f3 Rows.tankPartsRow.domain false) (Rows.tankPartsSpec.post enc Try.prog Try.f3 false true false false) := by
  refine returnsInHanded_of_change_sized (C := Try.checked) Try.own started (by kernel_rfl) Try.func3
    (ChangeSpec.witness6 (enc := enc) (C := Try.checked) false ⟨#[], #[.agg #[.int .i64 0, .int .i64 0, .slice none 0 0], .slice none 0 0, .slice none 0 0], []⟩ 8 (by kernel_rfl) (by kernel_rfl) (by kernel_rfl) (by kernel_rfl)) ?_
  intro W base args ds gs before hval0 hW _ hsz0 _
  have hsz : (DataW.weightsEach Try.prog (Try.f3.params.toList ++ Rows.tankPartsSpec.plain.varTypes Try.prog) (ds ++ gs)).all (· ≤ reachBytes) = true := hsz0
  clear hsz0
  refine law_post (P := Try.prog) (n := 3) (tb := 4) Try.laidOut Try.underlying4 rfl rfl (by kernel_rfl) (fun h => ?_) hval0 hW ?_
  · rw [Try.params3] at h
    obtain ⟨d0, d1, d2, rfl⟩ := l3 h
    exact ⟨rfl, rfl, rfl⟩
  · intro ss hg hl1 hl2 hs
    subst hg
    rw [Try.params3] at hl1 hl2 hs hsz
    obtain ⟨d0, d1, d2, rfl⟩ := l3 hl1
    obtain ⟨s0, s1, s2, rfl⟩ := l3 hl2
    obtain ⟨cs0, rfl, hc0⟩ := showsV_struct Try.underlying24 (hs 0 24 _ _ rfl rfl rfl)
    obtain ⟨a0, rfl, w0⟩ := shows_T24 (n := 0) hc0
    obtain ⟨a1, rfl, w1, k1⟩ := showsV_list (enc := (encI .i32)) (Wf := (fun z : Int => (Lit.int .i32 z).wf = true)) (n := 2) Try.underlying22 (k := 1) (by kernel_rfl) (fun _ _ h => (shows_el_int Try.underlying21 h)) (hs 1 22 _ _ rfl rfl rfl)
    have l1 := reach_len hsz (j := 1) rfl rfl Try.underlying22 (bytes_pos 21 (by kernel_rfl)) k1
    obtain ⟨a2, rfl, w2, k2⟩ := showsV_list (enc := (encI .i32)) (Wf := (fun z : Int => (Lit.int .i32 z).wf = true)) (n := 2) Try.underlying22 (k := 1) (by kernel_rfl) (fun _ _ h => (shows_el_int Try.underlying21 h)) (hs 2 22 _ _ rfl rfl rfl)
    have l2 := reach_len hsz (j := 2) rfl rfl Try.underlying22 (bytes_pos 21 (by kernel_rfl)) k2
    exact ⟨[], exerguelaw04_TankParts_ok (Parts_true a0 w0 a1 w1 l1 a2 w2 l2)⟩
theorem TankParts_holds : Rows.TankPartsSaid :=
  OpenClaim.holds_of_wide 3 Try.f3 rfl rfl rfl rfl rfl rfl rfl ⟨rfl, rfl, rfl, rfl, rfl⟩ rfl rfl rfl rfl rfl (by kernel_rfl) Try.func3 (by kernel_rfl)
    (of_decide_eq_true (by kernel_rfl)) (by unfold Func.isWrapper; first | (rw [if_pos (by decide +kernel)]; kernel_rfl) | (rw [if_neg (by decide +kernel)]; exact ⟨rfl, rfl⟩))
    (fun os started H enc _ => TankParts_lifted os started H enc)

set_option maxRecDepth 100000 in
theorem TankCounts_lifted (os : Os) (started : os.Started) (H : Type) (enc : TypeId × Value → H) :
    ReturnsInHanded {} Try.checked os 4 .any (Rows.tankCountsSpec.pre6 enc Try.prog Try.f4 Rows.tankCountsRow.domain false) (Rows.tankCountsSpec.post enc Try.prog Try.f4 false true false false) := by
  refine returnsInHanded_of_change_sized (C := Try.checked) Try.own started (by kernel_rfl) Try.func4
    (ChangeSpec.witness6 (enc := enc) (C := Try.checked) false ⟨#[], #[.agg #[.int .i64 0, .int .i64 0, .slice none 0 0], .slice none 0 0], []⟩ 8 (by kernel_rfl) (by kernel_rfl) (by kernel_rfl) (by kernel_rfl)) ?_
  intro W base args ds gs before hval0 hW _ hsz0 _
  have hsz : (DataW.weightsEach Try.prog (Try.f4.params.toList ++ Rows.tankCountsSpec.plain.varTypes Try.prog) (ds ++ gs)).all (· ≤ reachBytes) = true := hsz0
  clear hsz0
  refine law_post (P := Try.prog) (n := 3) (tb := 4) Try.laidOut Try.underlying4 rfl rfl (by kernel_rfl) (fun h => ?_) hval0 hW ?_
  · rw [Try.params4] at h
    obtain ⟨d0, d1, rfl⟩ := l2 h
    exact ⟨rfl, rfl, rfl⟩
  · intro ss hg hl1 hl2 hs
    subst hg
    rw [Try.params4] at hl1 hl2 hs hsz
    obtain ⟨d0, d1, rfl⟩ := l2 hl1
    obtain ⟨s0, s1, rfl⟩ := l2 hl2
    obtain ⟨cs0, rfl, hc0⟩ := showsV_struct Try.underlying24 (hs 0 24 _ _ rfl rfl rfl)
    obtain ⟨a0, rfl, w0⟩ := shows_T24 (n := 0) hc0
    obtain ⟨a1, rfl, w1, k1⟩ := showsV_list (enc := (encI .i32)) (Wf := (fun z : Int => (Lit.int .i32 z).wf = true)) (n := 2) Try.underlying22 (k := 1) (by kernel_rfl) (fun _ _ h => (shows_el_int Try.underlying21 h)) (hs 1 22 _ _ rfl rfl rfl)
    have l1 := reach_len hsz (j := 1) rfl rfl Try.underlying22 (bytes_pos 21 (by kernel_rfl)) k1
    exact ⟨[], exerguelaw04_TankCounts_ok (Counts_true a0 w0 a1 w1 l1)⟩
theorem TankCounts_holds : Rows.TankCountsSaid :=
  OpenClaim.holds_of_wide 4 Try.f4 rfl rfl rfl rfl rfl rfl rfl ⟨rfl, rfl, rfl, rfl, rfl⟩ rfl rfl rfl rfl rfl (by kernel_rfl) Try.func4 (by kernel_rfl)
    (of_decide_eq_true (by kernel_rfl)) (by unfold Func.isWrapper; first | (rw [if_pos (by decide +kernel)]; kernel_rfl) | (rw [if_neg (by decide +kernel)]; exact ⟨rfl, rfl⟩))
    (fun os started H enc _ => TankCounts_lifted os started H enc)

set_option maxRecDepth 100000 in
theorem TankBurns_lifted (os : Os) (started : os.Started) (H : Type) (enc : TypeId × Value → H) :
    ReturnsInHanded {} Try.checked os 5 .any (Rows.tankBurnsSpec.pre6 enc Try.prog Try.f5 Rows.tankBurnsRow.domain false) (Rows.tankBurnsSpec.post enc Try.prog Try.f5 false true false false) := by
  refine returnsInHanded_of_change_sized (C := Try.checked) Try.own started (by kernel_rfl) Try.func5
    (ChangeSpec.witness6 (enc := enc) (C := Try.checked) false ⟨#[], #[.agg #[.int .i64 0, .int .i64 0, .slice none 0 0], .int .u16 0, .int .u16 0], []⟩ 8 (by kernel_rfl) (by kernel_rfl) (by kernel_rfl) (by kernel_rfl)) ?_
  intro W base args ds gs before hval0 hW _ hsz0 _
  have hsz : (DataW.weightsEach Try.prog (Try.f5.params.toList ++ Rows.tankBurnsSpec.plain.varTypes Try.prog) (ds ++ gs)).all (· ≤ reachBytes) = true := hsz0
  clear hsz0
  refine law_post (P := Try.prog) (n := 3) (tb := 4) Try.laidOut Try.underlying4 rfl rfl (by kernel_rfl) (fun h => ?_) hval0 hW ?_
  · rw [Try.params5] at h
    obtain ⟨d0, d1, d2, rfl⟩ := l3 h
    exact ⟨rfl, rfl, rfl⟩
  · intro ss hg hl1 hl2 hs
    subst hg
    rw [Try.params5] at hl1 hl2 hs hsz
    obtain ⟨d0, d1, d2, rfl⟩ := l3 hl1
    obtain ⟨s0, s1, s2, rfl⟩ := l3 hl2
    obtain ⟨cs0, rfl, hc0⟩ := showsV_struct Try.underlying24 (hs 0 24 _ _ rfl rfl rfl)
    obtain ⟨a0, rfl, w0⟩ := shows_T24 (n := 0) hc0
    obtain ⟨a1, rfl, w1⟩ := showsV_int (n := 2) Try.underlying34 (hs 1 34 _ _ rfl rfl rfl)
    obtain ⟨a2, rfl, w2⟩ := showsV_int (n := 2) Try.underlying34 (hs 2 34 _ _ rfl rfl rfl)
    exact ⟨[], exerguelaw04_TankBurns_ok (Burns_true a0 w0 a1 w1 a2 w2)⟩
theorem TankBurns_holds : Rows.TankBurnsSaid :=
  OpenClaim.holds_of_wide 5 Try.f5 rfl rfl rfl rfl rfl rfl rfl ⟨rfl, rfl, rfl, rfl, rfl⟩ rfl rfl rfl rfl rfl (by kernel_rfl) Try.func5 (by kernel_rfl)
    (of_decide_eq_true (by kernel_rfl)) (by unfold Func.isWrapper; first | (rw [if_pos (by decide +kernel)]; kernel_rfl) | (rw [if_neg (by decide +kernel)]; exact ⟨rfl, rfl⟩))
    (fun os started H enc _ => TankBurns_lifted os started H enc)

set_option maxRecDepth 100000 in
theorem TankNone_lifted (os : Os) (started : os.Started) (H : Type) (enc : TypeId × Value → H) :
    ReturnsInHanded {} Try.checked os 6 .any (Rows.tankNoneSpec.pre6 enc Try.prog Try.f6 Rows.tankNoneRow.domain false) (Rows.tankNoneSpec.post enc Try.prog Try.f6 false true false false) := by
  refine returnsInHanded_of_change_sized (C := Try.checked) Try.own started (by kernel_rfl) Try.func6
    (ChangeSpec.witness6 (enc := enc) (C := Try.checked) false ⟨#[], #[.agg #[.int .i64 0, .int .i64 0, .slice none 0 0], .int .i64 0, .int .i64 0], []⟩ 8 (by kernel_rfl) (by kernel_rfl) (by kernel_rfl) (by kernel_rfl)) ?_
  intro W base args ds gs before hval0 hW _ hsz0 _
  have hsz : (DataW.weightsEach Try.prog (Try.f6.params.toList ++ Rows.tankNoneSpec.plain.varTypes Try.prog) (ds ++ gs)).all (· ≤ reachBytes) = true := hsz0
  clear hsz0
  refine law_post (P := Try.prog) (n := 3) (tb := 4) Try.laidOut Try.underlying4 rfl rfl (by kernel_rfl) (fun h => ?_) hval0 hW ?_
  · rw [Try.params6] at h
    obtain ⟨d0, d1, d2, rfl⟩ := l3 h
    exact ⟨rfl, rfl, rfl⟩
  · intro ss hg hl1 hl2 hs
    subst hg
    rw [Try.params6] at hl1 hl2 hs hsz
    obtain ⟨d0, d1, d2, rfl⟩ := l3 hl1
    obtain ⟨s0, s1, s2, rfl⟩ := l3 hl2
    obtain ⟨cs0, rfl, hc0⟩ := showsV_struct Try.underlying24 (hs 0 24 _ _ rfl rfl rfl)
    obtain ⟨a0, rfl, w0⟩ := shows_T24 (n := 0) hc0
    obtain ⟨a1, rfl, w1⟩ := showsV_int (n := 2) Try.underlying3 (hs 1 3 _ _ rfl rfl rfl)
    obtain ⟨a2, rfl, w2⟩ := showsV_int (n := 2) Try.underlying3 (hs 2 3 _ _ rfl rfl rfl)
    exact ⟨[], exerguelaw04_TankNone_ok (None_true a0 w0 a1 w1 a2 w2)⟩
theorem TankNone_holds : Rows.TankNoneSaid :=
  OpenClaim.holds_of_wide 6 Try.f6 rfl rfl rfl rfl rfl rfl rfl ⟨rfl, rfl, rfl, rfl, rfl⟩ rfl rfl rfl rfl rfl (by kernel_rfl) Try.func6 (by kernel_rfl)
    (of_decide_eq_true (by kernel_rfl)) (by unfold Func.isWrapper; first | (rw [if_pos (by decide +kernel)]; kernel_rfl) | (rw [if_neg (by decide +kernel)]; exact ⟨rfl, rfl⟩))
    (fun os started H enc _ => TankNone_lifted os started H enc)

set_option maxRecDepth 100000 in
theorem TankFull_lifted (os : Os) (started : os.Started) (H : Type) (enc : TypeId × Value → H) :
    ReturnsInHanded {} Try.checked os 7 .any (Rows.tankFullSpec.pre6 enc Try.prog Try.f7 Rows.tankFullRow.domain false) (Rows.tankFullSpec.post enc Try.prog Try.f7 false true false false) := by
  refine returnsInHanded_of_change_sized (C := Try.checked) Try.own started (by kernel_rfl) Try.func7
    (ChangeSpec.witness6 (enc := enc) (C := Try.checked) false ⟨#[], #[.agg #[.int .i64 0, .int .i64 0, .slice none 0 0], .slice none 0 0], []⟩ 8 (by kernel_rfl) (by kernel_rfl) (by kernel_rfl) (by kernel_rfl)) ?_
  intro W base args ds gs before hval0 hW _ hsz0 _
  have hsz : (DataW.weightsEach Try.prog (Try.f7.params.toList ++ Rows.tankFullSpec.plain.varTypes Try.prog) (ds ++ gs)).all (· ≤ reachBytes) = true := hsz0
  clear hsz0
  refine law_post (P := Try.prog) (n := 3) (tb := 4) Try.laidOut Try.underlying4 rfl rfl (by kernel_rfl) (fun h => ?_) hval0 hW ?_
  · rw [Try.params7] at h
    obtain ⟨d0, d1, rfl⟩ := l2 h
    exact ⟨rfl, rfl, rfl⟩
  · intro ss hg hl1 hl2 hs
    subst hg
    rw [Try.params7] at hl1 hl2 hs hsz
    obtain ⟨d0, d1, rfl⟩ := l2 hl1
    obtain ⟨s0, s1, rfl⟩ := l2 hl2
    obtain ⟨cs0, rfl, hc0⟩ := showsV_struct Try.underlying24 (hs 0 24 _ _ rfl rfl rfl)
    obtain ⟨a0, rfl, w0⟩ := shows_T24 (n := 0) hc0
    obtain ⟨a1, rfl, w1, k1⟩ := showsV_list (enc := (encI .i32)) (Wf := (fun z : Int => (Lit.int .i32 z).wf = true)) (n := 2) Try.underlying22 (k := 1) (by kernel_rfl) (fun _ _ h => (shows_el_int Try.underlying21 h)) (hs 1 22 _ _ rfl rfl rfl)
    have l1 := reach_len hsz (j := 1) rfl rfl Try.underlying22 (bytes_pos 21 (by kernel_rfl)) k1
    exact ⟨[], exerguelaw04_TankFull_ok (Full_true a0 w0 a1 w1 l1)⟩
theorem TankFull_holds : Rows.TankFullSaid :=
  OpenClaim.holds_of_wide 7 Try.f7 rfl rfl rfl rfl rfl rfl rfl ⟨rfl, rfl, rfl, rfl, rfl⟩ rfl rfl rfl rfl rfl (by kernel_rfl) Try.func7 (by kernel_rfl)
    (of_decide_eq_true (by kernel_rfl)) (by unfold Func.isWrapper; first | (rw [if_pos (by decide +kernel)]; kernel_rfl) | (rw [if_neg (by decide +kernel)]; exact ⟨rfl, rfl⟩))
    (fun os started H enc _ => TankFull_lifted os started H enc)

end Go.Proofs.Ytpfigkedefbedaa
