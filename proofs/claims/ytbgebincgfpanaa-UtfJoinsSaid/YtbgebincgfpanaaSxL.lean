/-
  The shadow machine, part 12: code, and whole functions.
-/
import Derived.Test.YtbgebincgfpanaaSxK
namespace Go.Sx
open Go Go.RowKit

def thenS (next : Env → Heap → Prop) (Q : Exit → Env → Heap → Prop) : Exit → Env → Heap → Prop
  | .normal, ρ, H => next ρ H
  | e, ρ, H => Q e ρ H

def inBlockS (id : Nat) (Q : Exit → Env → Heap → Prop) : Exit → Env → Heap → Prop
  | .exit id', ρ, H => if id' = id then Q .normal ρ H else Q (.exit id') ρ H
  | e, ρ, H => Q e ρ H

def codeW (P : Program) : Code → (Exit → Env → Heap → Prop) → Env → Heap → Prop
  | .skip, Q, ρ, H => Q .normal ρ H
  | .region _ ops draw, Q, ρ, H => if draw then drawOk ops = true ∧ textD P ops H ops.toList (fun ρ' => Q .normal ρ' H) ρ else opsW P ops ops.toList (Q .normal) ρ H
  | .seq a b, Q, ρ, H => codeW P a (thenS (codeW P b Q) Q) ρ H
  | .cond c x y, Q, ρ, H => ∃ b, valE ρ c = some (.bool b) ∧ (b = true → codeW P x Q ρ H) ∧ (b = false → codeW P y Q ρ H)
  | .block id c, Q, ρ, H => codeW P c (inBlockS id Q) ρ H
  | .loop c, Q, ρ, H => ∀ X : Env → Heap → Prop, (∀ ρ H, codeW P c (thenS X Q) ρ H → X ρ H) → X ρ H
  | .exit id, Q, ρ, H => Q (.exit id) ρ H
  | .ret, Q, ρ, H => Q .ret ρ H
  | _, _, _, _ => False

def codeIn (n : Nat) : Code → Bool
  | .region _ ops _ => ops.toList.all (Oper.inB n ops)
  | .seq a b => codeIn n a && codeIn n b
  | .cond c x y => Operand.inB n c && codeIn n x && codeIn n y
  | .block _ c => codeIn n c
  | .loop c => codeIn n c
  | _ => true

section
variable {P : Program} {F : Fr}

def liftS (F : Fr) (Q : Exit → Env → Heap → Prop) : Exit → Act → World → Prop := fun e a w => ∃ ρ H, St F ρ H a w ∧ Q e ρ H

theorem code_sound (hm : P.follows .mixedOrders = true) : ∀ (c : Code) (Q : Exit → Env → Heap → Prop) (ρ : Env) (H : Heap) (a : Act) (w : World), codeIn F.n c = true → St F ρ H a w → codeW P c Q ρ H → c.wp P (liftS F Q) a w := by
  intro c
  induction c with
  | skip => intro Q ρ H a w _ hst h; exact wp_skip ⟨ρ, H, hst, h⟩
  | region id ops draw =>
    intro Q ρ H a w hin hst h
    simp only [codeIn, List.all_eq_true] at hin
    simp only [codeW] at h
    cases draw with
    | true =>
      rw [if_pos rfl] at h
      exact drawn_sound hm h.1 (fun ρ' a' w' hst' hq => ⟨ρ', H, hst', hq⟩) hin hst h.2
    | false =>
      rw [if_neg (by simp)] at h
      exact wp_region_list (opsW_sound (F := F) (Q .normal) (fun a w => liftS F Q .normal a w) (fun ρ' H' a' w' hst' hq => ⟨ρ', H', hst', hq⟩) (fun a w h => h) ops.toList ρ H a w hin hst h)
  | seq x y ihx ihy =>
    intro Q ρ H a w hin hst h
    simp only [codeIn, Bool.and_eq_true] at hin
    simp only [codeW] at h
    refine wp_seq (Code.wp_mono (fun e a' w' hq => ?_) (ihx _ ρ H a w hin.1 hst h))
    obtain ⟨ρ', H', hst', hq⟩ := hq
    cases e <;> first | exact ihy Q ρ' H' a' w' hin.2 hst' hq | exact ⟨ρ', H', hst', hq⟩
  | cond c x y ihx ihy =>
    intro Q ρ H a w hin hst h
    simp only [codeIn, Bool.and_eq_true] at hin
    simp only [codeW] at h
    obtain ⟨b, hb, ht, hf⟩ := h
    have hst2 := hst
    obtain ⟨hd, K, β, hinv⟩ := hst
    have hr := valE_rep hinv hin.1.1 hb
    generalize hv : a.eval c = v at hr
    cases hr
    exact wp_cond_split hv (fun e => ihx Q ρ H a w hin.1.2 hst2 (ht e)) (fun e => ihy Q ρ H a w hin.2 hst2 (hf e))
  | block id c ih =>
    intro Q ρ H a w hin hst h
    simp only [codeIn] at hin
    simp only [codeW] at h
    refine wp_block (Code.wp_mono (fun e a' w' hq => ?_) (ih _ ρ H a w hin hst h))
    obtain ⟨ρ', H', hst', hq⟩ := hq
    cases e <;> try exact ⟨ρ', H', hst', hq⟩
    rename_i id'
    simp only [inBlockS] at hq
    simp only [Exit.inBlock]
    split
    · rename_i e; rw [if_pos e] at hq; exact ⟨ρ', H', hst', hq⟩
    · rename_i e; rw [if_neg e] at hq; exact ⟨ρ', H', hst', hq⟩
  | loop c ih =>
    intro Q ρ H a w hin hst h
    simp only [codeIn] at hin
    simp only [codeW] at h
    have main := h (fun ρ H => ∀ a w, St F ρ H a w → ∀ b k cs, ∃ e a' w', liftS F Q e a' w' ∧ Arrives P (lone (b.at a (.code c :: .inLoop c :: k)) cs w) b k cs e a' w') ?_ a w hst
    · intro b k cs
      obtain ⟨e, a', w', hq, harr⟩ := main b k cs
      exact ⟨e, a', w', hq, .of_steps (.one step_loop) harr⟩
    intro ρ H hc a w hst b k cs
    have hr := ih _ ρ H a w hin hst hc
    obtain ⟨e, a₁, w₁, hq, harr⟩ := hr b (.inLoop c :: k) cs
    obtain ⟨ρ', H', hst', hq⟩ := hq
    cases e with
    | normal =>
      obtain ⟨e₂, a₂, w₂, hq₂, harr₂⟩ := hq a₁ w₁ hst' b k cs
      exact ⟨e₂, a₂, w₂, hq₂, .of_steps (Steps.trans harr (.one step_inLoop)) harr₂⟩
    | exit id => exact ⟨_, a₁, w₁, ⟨ρ', H', hst', hq⟩, .pass (x := .inLoop c) rfl (fun _ _ => .inl (by simp)) harr⟩
    | goto l => exact ⟨_, a₁, w₁, ⟨ρ', H', hst', hq⟩, .pass (x := .inLoop c) rfl (fun _ _ => .inl (by simp)) harr⟩
    | ret => exact ⟨_, a₁, w₁, ⟨ρ', H', hst', hq⟩, .pass (x := .inLoop c) rfl (fun _ _ => .inl (by simp)) harr⟩
    | panic ch => exact ⟨_, a₁, w₁, ⟨ρ', H', hst', hq⟩, .pass (x := .inLoop c) rfl (fun _ _ => .inl (by simp)) harr⟩
    | outgrown => exact ⟨_, a₁, w₁, ⟨ρ', H', hst', hq⟩, .pass (x := .inLoop c) rfl (fun _ _ => .inl (by simp)) harr⟩
  | exit id => intro Q ρ H a w _ hst h; exact wp_exit ⟨ρ, H, hst, h⟩
  | ret => intro Q ρ H a w _ hst h; exact wp_ret ⟨ρ, H, hst, h⟩
  | _ => intro Q ρ H a w _ _ h; simp only [codeW] at h
end

/-- More is allowed, more is met. -/
theorem opsW_mono {P : Program} {ops : Array Oper} {K K' : Env → Heap → Prop} (hk : ∀ ρ H, K ρ H → K' ρ H) : ∀ (l : List Oper) (ρ : Env) (H : Heap), opsW P ops l K ρ H → opsW P ops l K' ρ H := by
  intro l
  induction l with
  | nil => intro ρ H h; exact hk _ _ h
  | cons o l ih =>
    intro ρ H h
    simp only [opsW] at h ⊢
    split
    · rename_i hg
      rw [hg] at h
      simp only at h
      split
      · rename_i hc
        rw [if_pos hc] at h
        split
        · rename_i f args ρ1 hcg
          rw [hcg] at h
          obtain ⟨v, H', h1, h2⟩ := h
          exact ⟨v, H', h1, ih _ _ h2⟩
        · rename_i hcg; rw [hcg] at h; exact h
      · rename_i hc
        rw [if_neg hc] at h
        split
        · rename_i v ρ1 H' he
          rw [he] at h
          exact ih _ _ h
        · rename_i he; rw [he] at h; exact h
    · rename_i hg
      rw [hg] at h
      exact ih _ _ h
    · rename_i hg
      rw [hg] at h
      exact h

theorem textD_mono {P : Program} {ops : Array Oper} {H : Heap} {K K' : Env → Prop} (hk : ∀ ρ, K ρ → K' ρ) : ∀ (l : List Oper) (ρ : Env), textD P ops H l K ρ → textD P ops H l K' ρ := by
  intro l
  induction l with
  | nil => intro ρ h; exact hk _ h
  | cons o l ih =>
    intro ρ h
    simp only [textD] at h ⊢
    split
    · rename_i hg
      rw [hg] at h
      simp only at h
      split
      · rename_i hc
        rw [if_pos hc] at h
        split
        · rename_i f args hcg
          rw [hcg] at h
          obtain ⟨v, h1, h2⟩ := h
          exact ⟨v, h1, ih _ h2⟩
        · rename_i hcg; rw [hcg] at h; exact h
      · rename_i hc
        rw [if_neg hc] at h
        split
        · rename_i v he
          rw [he] at h
          exact ih _ h
        · rename_i he; rw [he] at h; exact h
    · rename_i hg
      rw [hg] at h
      exact ih _ h
    · rename_i hg
      rw [hg] at h
      exact h

theorem codeW_mono {P : Program} : ∀ (c : Code) {Q Q' : Exit → Env → Heap → Prop}, (∀ e ρ H, Q e ρ H → Q' e ρ H) → ∀ (ρ : Env) (H : Heap), codeW P c Q ρ H → codeW P c Q' ρ H := by
  intro c
  induction c with
  | skip => intro Q Q' hq ρ H h; exact hq _ _ _ h
  | region id ops draw =>
    intro Q Q' hq ρ H h
    simp only [codeW] at h ⊢
    split
    · rename_i hd
      rw [if_pos hd] at h
      exact ⟨h.1, textD_mono (fun ρ => hq _ _ _) _ _ h.2⟩
    · rename_i hd
      rw [if_neg hd] at h
      exact opsW_mono (fun ρ H => hq _ _ _) _ _ _ h
  | seq x y ihx ihy =>
    intro Q Q' hq ρ H h
    simp only [codeW] at h ⊢
    refine ihx (fun e ρ H he => ?_) _ _ h
    cases e <;> first | exact ihy hq _ _ he | exact hq _ _ _ he
  | cond c x y ihx ihy =>
    intro Q Q' hq ρ H h
    simp only [codeW] at h ⊢
    obtain ⟨b, hb, h1, h2⟩ := h
    exact ⟨b, hb, fun e => ihx hq _ _ (h1 e), fun e => ihy hq _ _ (h2 e)⟩
  | block id c ih =>
    intro Q Q' hq ρ H h
    simp only [codeW] at h ⊢
    refine ih (fun e ρ H he => ?_) _ _ h
    cases e <;> try exact hq _ _ _ he
    simp only [inBlockS] at he ⊢
    split
    · rename_i e; rw [if_pos e] at he; exact hq _ _ _ he
    · rename_i e; rw [if_neg e] at he; exact hq _ _ _ he
  | loop c ih =>
    intro Q Q' hq ρ H h
    simp only [codeW] at h ⊢
    intro X hX
    refine h X fun ρ H hc => hX _ _ (ih (fun e ρ H he => ?_) _ _ hc)
    cases e <;> first | exact he | exact hq _ _ _ he
  | exit id => intro Q Q' hq ρ H h; exact hq _ _ _ h
  | ret => intro Q Q' hq ρ H h; exact hq _ _ _ h
  | _ => intro Q Q' hq ρ H h; simp only [codeW] at h

/-- One more round of a loop. -/
theorem loop_round {P : Program} {c : Code} {Q : Exit → Env → Heap → Prop} {ρ : Env} {H : Heap} (h : codeW P c (thenS (codeW P (.loop c) Q) Q) ρ H) : codeW P (.loop c) Q ρ H := by
  simp only [codeW]
  intro X hX
  refine hX _ _ (codeW_mono c (fun e ρ H he => ?_) _ _ h)
  cases e <;> try exact he
  simp only [thenS, codeW] at he
  exact he X hX

/-- A loop with a measure. -/
theorem loop_inv {P : Program} {c : Code} {Q : Exit → Env → Heap → Prop} {ρ : Env} {H : Heap} (I : Nat → Env → Heap → Prop) (n : Nat) (h0 : I n ρ H)
    (round : ∀ n ρ H, I n ρ H → codeW P c (thenS (fun ρ' H' => ∃ m, m < n ∧ I m ρ' H') Q) ρ H) : codeW P (.loop c) Q ρ H := by
  simp only [codeW]
  intro X hX
  have key : ∀ n ρ H, I n ρ H → X ρ H := by
    intro n
    induction n using Nat.strongRecOn with
    | _ n ih =>
      intro ρ H hI
      refine hX _ _ (codeW_mono c (fun e ρ H he => ?_) _ _ (round n ρ H hI))
      cases e <;> try exact he
      obtain ⟨m, hlt, hm⟩ := he
      exact ih m hlt _ _ hm
  exact key n ρ H h0
end Go.Sx
