import Derived.Test.YtafbfodcilkgmaaGreatDoorProg
import Derived.Test.YtafbfodcilkgmaaGreatDoorRows
import Derived.KernelRfl
import Derived.JoinedOf
set_option maxRecDepth 1000000
set_option maxHeartbeats 4000000
namespace Go.Proofs.YtafbfodcilkgmaaGreatDoor
open Go
def qM(P : Program): Nat → List FuncId → List FuncId → Nat → Option (List FuncId)
  | _, [], s, _ => some s.reverse
  | 0, _, _, _ => none
  | n + 1, f :: t, s, k => bif Nat.beq (Nat.land 1 (Nat.shiftRight k f)) 1 then qM P n t s k else (P.funcs[f]?).bind fun g => qM P n (P.leadsTo g ++ t) (f :: s) (Nat.lor k (Nat.shiftLeft 1 f))
def qW(P : Program)(s : List Nat): Nat → List Func → Nat
  | _, [] => 0
  | i, g :: l => (if i ∈ s then 0 else (P.leadsTo g).length + 1) + qW P s (i + 1) l
theorem q1{P s f}: ∀ l i, qW P (f :: s) i l ≤ qW P s i l
  | [], _ => Nat.le_refl _
  | g :: l, i => by
    have := q1 (P := P) (s := s) (f := f) l (i + 1)
    unfold qW
    by_cases q : i ∈ s <;> simp [q] <;> try split
    all_goals omega
theorem q2{P s g}: ∀ l i j, l[j]? = some g → i + j ∉ s → qW P ((i + j) :: s) i l + ((P.leadsTo g).length + 1) ≤ qW P s i l
  | a :: l, i, 0, h, n => by
    cases h
    have := q1 (P := P) (s := s) (f := i) l (i + 1)
    simp [qW, (show i ∉ s from n)]; omega
  | a :: l, i, j + 1, h, n => by
    rw [show i + (j + 1) = i + 1 + j by omega] at n ⊢
    have := q2 (P := P) l (i + 1) j h n
    have e : i ≠ i + 1 + j := by omega
    simp [qW, e]; omega
theorem q3{P}: ∀ l i, qW P [] i l = (l.map fun g => (P.leadsTo g).length + 1).sum
  | [], _ => rfl
  | g :: l, i => by simp [qW, q3 l]
theorem q4{P : Program}: ∀ {n t s k r m}, (∀ i, Nat.testBit k i = decide (i ∈ s)) → qM P n t s k = some r → qW P s 0 P.funcs.toList + t.length ≤ m → P.closureVia m t s = r
  | n, [], s, _, _, m, _, h, _ => by cases m <;> cases n <;> exact Option.some.inj h
  | 0, _ :: _, _, _, _, _, _, h, _ => nomatch h
  | n + 1, f :: t, s, k, r, 0, _, _, h => by simp at h
  | n + 1, f :: t, s, k, r, m + 1, hk, h, hm => by
    have e : Nat.beq (Nat.land 1 (Nat.shiftRight k f)) 1 = decide (f ∈ s) := by
      rw [← hk f]
      show Nat.beq (1 &&& (k >>> f)) 1 = ((1 &&& (k >>> f)) != 0)
      have : 1 &&& (k >>> f) < 2 := Nat.lt_of_le_of_lt Nat.and_le_left (by omega)
      generalize 1 &&& (k >>> f) = x at this
      match x, this with
      | 0, _ => rfl
      | 1, _ => rfl
    unfold qM at h; unfold Program.closureVia
    rw [e] at h
    simp only [List.length_cons] at hm
    by_cases q : f ∈ s
    · rw [if_pos (by simpa using q)]
      rw [decide_eq_true q] at h
      exact q4 hk h (by omega)
    · rw [if_neg (by simpa using q)]
      rw [decide_eq_false q] at h
      obtain ⟨g, hg, h⟩ := Option.bind_eq_some_iff.1 h
      rw [hg]; show P.closureVia m (P.leadsTo g ++ t) _ = r
      have := q2 (P := P) P.funcs.toList 0 f (by simpa using hg) (by simpa using q)
      rw [Nat.zero_add] at this
      refine q4 (fun i => ?_) h (by simp only [List.length_append]; omega)
      show Nat.testBit (k ||| (1 <<< f)) i = _
      rw [Nat.testBit_or, hk i, Nat.one_shiftLeft, Nat.testBit_two_pow]
      simp [Bool.or_comm, eq_comm]
theorem q5{P : Program}{f n r}(h : qM P n [f] [] 0 = some r): P.closure f = r := q4 (by simp) h (by rw [q3]; simp; omega)
noncomputable def qR:= (qM Tryz.prog 99999 [3] [] 0).getD []
theorem q6: Tryz.prog.closure 3 = qR := q5 (n := 99999) (by kernel_rfl)
theorem qU: Tryz.prog.unfollowed 3 = true := by unfold Program.unfollowed; rw [q6]; kernel_rfl
theorem qI: Tryz.prog.inPlace 3 = Rows.certBoundsRow.inPlace := by unfold Program.inPlace; rw [q6]; kernel_rfl
theorem qN: Tryz.prog.varsNamed 3 = Rows.certBoundsRow.named := by unfold Program.varsNamed; rw [q6]; kernel_rfl
theorem qJ: joinedFacts Tryz.prog 3 Tryz.f3 Rows.certBoundsSpec Rows.certBoundsRow = true := by
  unfold joinedFacts
  rw [qU, qI, qN, show Tryz.prog.recurses 3 = true by unfold Program.recurses; rw [qU]; rfl]
  kernel_rfl
end Go.Proofs.YtafbfodcilkgmaaGreatDoor
