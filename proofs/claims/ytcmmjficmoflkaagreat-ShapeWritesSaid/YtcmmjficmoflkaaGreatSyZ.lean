/-
 Loops over natives that go through a row, and what common loops come to.
-/
import Derived.Test.YtcmmjficmoflkaaGreatSyU
import Derived.Test.YtcmmjficmoflkaaGreatSyV
namespace Go.Sy
open Go Go.RowKit
set_option linter.unusedVariables false
set_option linter.unusedSimpArgs false
set_option linter.unusedSectionVars false
variable [Inhabited GT]
section
variable {T S O : Type} {step : S → Option (S ⊕ O)}
theorem loop_row (xs : List T) (st : List T → S) (I : List T → Prop) (post : O → Prop) {s0 : S} (h0 : s0 = st []) (hI : I [])
  (hs : ∀ pre x suf, xs = pre ++ x :: suf → I pre → (step (st pre) = some (.inl (st (pre ++ [x]))) ∧ I (pre ++ [x])) ∨ ∃ o, step (st pre) = some (.inr o) ∧ post o)
  (he : I xs → ∃ o, step (st xs) = some (.inr o) ∧ post o) (hl : xs.length < 18446744073709551616) :
  ∃ o, loopN step big s0 = some o ∧ post o := by
 have key : ∀ (suf pre : List T) (n : Nat), xs = pre ++ suf → I pre → suf.length < n → ∃ o, loopN step n (st pre) = some o ∧ post o := by
  intro suf
  induction suf with
  | nil =>
   intro pre n hx hi hn
   obtain ⟨m, rfl⟩ : ∃ m, n = m + 1 := ⟨n - 1, by simp at hn; omega⟩
   rw [List.append_nil] at hx; subst hx
   obtain ⟨o, h1, h2⟩ := he hi
   exact ⟨o, loopN_out h1, h2⟩
  | cons x suf ih =>
   intro pre n hx hi hn
   obtain ⟨m, rfl⟩ : ∃ m, n = m + 1 := ⟨n - 1, by simp at hn; omega⟩
   rcases hs pre x suf hx hi with ⟨h1, h2⟩ | ⟨o, h1, h2⟩
   ·rw [loopN_next h1]
    exact ih (pre ++ [x]) m (by rw [hx]; simp) h2 (by simp at hn; omega)
   ·exact ⟨o, loopN_out h1, h2⟩
 subst h0
 exact key xs [] big rfl hI hl
theorem loop_all (p : T → Bool) (xs : List T) (st : List T → S) (ok bad : O) {s0 : S} (h0 : s0 = st [])
  (hs : ∀ pre x suf, xs = pre ++ x :: suf → step (st pre) = some (if p x = true then .inl (st (pre ++ [x])) else .inr bad)) (he : step (st xs) = some (.inr ok)) (hl : xs.length < 18446744073709551616) :
  loopN step big s0 = some (if xs.all p = true then ok else bad) := by
 obtain ⟨o, h1, h2⟩ := loop_row (step := step) xs st (fun pre => pre.all p = true) (fun o => o = if xs.all p = true then ok else bad) h0 rfl (fun pre x suf h hi => by
  rw [hs pre x suf h]
  cases hp : p x with
  | true => exact .inl ⟨by simp, by simp [List.all_append, hi, hp]⟩
  | false => exact .inr ⟨bad, by simp, by subst h; simp [hp]⟩) (fun hi => ⟨ok, he, by simp [hi]⟩) hl
 rw [h1, h2]
theorem loop_back (xs : List T) (st : List T → S) (I : List T → Prop) (post : O → Prop) {s0 : S} (h0 : s0 = st []) (hI : I [])
  (hs : ∀ pre x suf, xs = pre ++ x :: suf → I suf → (step (st suf) = some (.inl (st (x :: suf))) ∧ I (x :: suf)) ∨ ∃ o, step (st suf) = some (.inr o) ∧ post o)
  (he : I xs → ∃ o, step (st xs) = some (.inr o) ∧ post o) (hl : xs.length < 18446744073709551616) :
  ∃ o, loopN step big s0 = some o ∧ post o := by
 refine loop_row xs.reverse (fun l => st l.reverse) (fun l => I l.reverse) post (by simpa using h0) (by simpa using hI) (fun pre x suf h hi => ?_) (fun hi => ?_) (by simpa using hl)
 ·have hx : xs = suf.reverse ++ x :: pre.reverse := by
   have := congrArg List.reverse h
   simpa using this
  simpa using hs suf.reverse x pre.reverse hx hi
 ·simpa using he (by simpa using hi)
theorem loop_fold_back (xs : List T) (st : List T → S) (fin : O) {s0 : S} (h0 : s0 = st [])
  (hs : ∀ pre x suf, xs = pre ++ x :: suf → step (st suf) = some (.inl (st (x :: suf)))) (he : step (st xs) = some (.inr fin)) (hl : xs.length < 18446744073709551616) :
  loopN step big s0 = some fin := by
 obtain ⟨o, h1, h2⟩ := loop_back (step := step) xs st (fun _ => True) (fun o => o = fin) h0 trivial (fun pre x suf h _ => .inl ⟨hs pre x suf h, trivial⟩) (fun _ => ⟨fin, he, rfl⟩) hl
 rw [h1, h2]
theorem loop_count (n : Nat) (st : Nat → S) (I : Nat → Prop) (post : O → Prop) {s0 : S} (h0 : s0 = st 0) (hI : I 0)
  (hs : ∀ i, i < n → I i → (step (st i) = some (.inl (st (i + 1))) ∧ I (i + 1)) ∨ ∃ o, step (st i) = some (.inr o) ∧ post o)
  (he : I n → ∃ o, step (st n) = some (.inr o) ∧ post o) (hl : n < 18446744073709551616) :
  ∃ o, loopN step big s0 = some o ∧ post o := by
 have key : ∀ (k i m : Nat), i + k = n → I i → k < m → ∃ o, loopN step m (st i) = some o ∧ post o := by
  intro k
  induction k with
  | zero =>
   intro i m hx hi hn
   obtain ⟨m, rfl⟩ : ∃ q, m = q + 1 := ⟨m - 1, by omega⟩
   obtain rfl : i = n := by omega
   obtain ⟨o, h1, h2⟩ := he hi
   exact ⟨o, loopN_out h1, h2⟩
  | succ k ih =>
   intro i m hx hi hn
   obtain ⟨m, rfl⟩ : ∃ q, m = q + 1 := ⟨m - 1, by omega⟩
   rcases hs i (by omega) hi with ⟨h1, h2⟩ | ⟨o, h1, h2⟩
   ·rw [loopN_next h1]
    exact ih (i + 1) m (by omega) h2 (by omega)
   ·exact ⟨o, loopN_out h1, h2⟩
 subst h0
 exact key n 0 big (by omega) hI hl
end
section
variable {T : Type} [Inhabited T]
theorem nth_mid {pre suf : List T} {x : T} : nth (pre ++ x :: suf) (pre.length : Int) = x := by
 rw [nth_nat (by simp)]; simp
theorem inR_mid {T : Type} {pre suf : List T} {x : T} : inR (pre.length : Int) (pre ++ x :: suf).length = true := inR_nat (by simp)
theorem lt_mid {T : Type} {pre suf : List T} {x : T} : decide ((pre.length : Int) < ((pre ++ x :: suf).length : Int)) = true := dT (by simp; omega)
theorem lt_end {T : Type} {xs : List T} : decide ((xs.length : Int) < (xs.length : Int)) = false := dF (by omega)
theorem w_mid {T : Type} {pre suf : List T} {x : T} (h : (pre ++ x :: suf).length ≤ 4611686018427387904) : IntKind.wrap .i64 ((pre.length : Int) + 1) = ((pre ++ [x]).length : Int) := by
 simp at h ⊢
 exact w64 (by omega) (by omega)
end
theorem all_loop {T : Type} [Inhabited T] (bad : T → Bool) (xs : List T) (hl : xs.length ≤ 4611686018427387904) :
  loopN (fun s : Int => (bif (decide (s < (xs.length : Int))) then (bif inR s xs.length then (bif bad (nth xs s) then (some (.inr (.inr false))) else (some (.inl (IntKind.wrap .i64 (s + 1))))) else none) else (some (.inr (.inl ()))))) big 0
   = some (if xs.all (fun c => !bad c) = true then (.inl () : Unit ⊕ Bool) else .inr false) := by
 rw [loop_all (fun c => !bad c) xs (fun pre => (pre.length : Int)) (.inl ()) (.inr false)]
 ·rfl
 ·intro pre x suf h
  subst h
  rw [lt_mid, inR_mid, nth_mid, w_mid hl]
  cases bad x <;> rfl
 ·rw [lt_end]; rfl
 ·omega
theorem reverse_loop (xs : List Int) (hl : xs.length ≤ 4611686018427387904) :
  loopN (fun (s1 : Int × Int × (List Int)) => (bif (decide (s1.1 < s1.2.1)) then (bif inR s1.2.1 s1.2.2.length then (bif inR s1.2.1 s1.2.2.length then (bif inR s1.1 s1.2.2.length then (bif inR s1.1 s1.2.2.length then (bif inR s1.1 s1.2.2.length then (bif inR s1.1 s1.2.2.length then (bif inR s1.2.1 (setAt s1.2.2 s1.1 (nth s1.2.2 s1.2.1)).length then (bif inR s1.2.1 (setAt s1.2.2 s1.1 (nth s1.2.2 s1.2.1)).length then (some (.inl ((IntKind.wrap .i64 (s1.1 + 1)), (IntKind.wrap .i64 (s1.2.1 - 1)), (setAt (setAt s1.2.2 s1.1 (nth s1.2.2 s1.2.1)) s1.2.1 (nth s1.2.2 s1.1))))) else none) else none) else none) else none) else none) else none) else none) else none) else (some (.inr s1.2.2)))) big (0, (IntKind.wrap .i64 ((xs.length : Int) - 1)), xs) = some xs.reverse := by
 rw [w64 (by omega) (by omega)]
 generalize hst : (fun (s1 : Int × Int × (List Int)) => (bif (decide (s1.1 < s1.2.1)) then (bif inR s1.2.1 s1.2.2.length then (bif inR s1.2.1 s1.2.2.length then (bif inR s1.1 s1.2.2.length then (bif inR s1.1 s1.2.2.length then (bif inR s1.1 s1.2.2.length then (bif inR s1.1 s1.2.2.length then (bif inR s1.2.1 (setAt s1.2.2 s1.1 (nth s1.2.2 s1.2.1)).length then (bif inR s1.2.1 (setAt s1.2.2 s1.1 (nth s1.2.2 s1.2.1)).length then (some (.inl ((IntKind.wrap .i64 (s1.1 + 1)), (IntKind.wrap .i64 (s1.2.1 - 1)), (setAt (setAt s1.2.2 s1.1 (nth s1.2.2 s1.2.1)) s1.2.1 (nth s1.2.2 s1.1))))) else none) else none) else none) else none) else none) else none) else none) else none) else (some (.inr s1.2.2)) : Option ((Int × Int × (List Int)) ⊕ (List Int)))) = step
 obtain ⟨o, h1, h2⟩ := loopN_run (step := step)
  (fun s => ∃ i : Nat, s.1 = i ∧ s.2.1 = (xs.length : Int) - 1 - i ∧ s.2.2.length = xs.length ∧ (i : Int) ≤ (xs.length : Int) - i + 1 ∧ ∀ k, k < xs.length → s.2.2[k]? = if k < i ∨ xs.length ≤ k + i then xs[xs.length - 1 - k]? else xs[k]?)
  (fun s => xs.length - s.1.toNat) (fun o => o = xs.reverse) (fun s hs => by
   obtain ⟨a, b, ys⟩ := s
   obtain ⟨i, ha, hb, hlen, hi, hk⟩ := hs
   simp only at ha hb hlen hk
   subst ha; subst hb; subst hst
   simp only
   by_cases hij : (i : Int) < (xs.length : Int) - 1 - i
   ·obtain ⟨j, hj⟩ : ∃ j : Nat, (j : Int) = (xs.length : Int) - 1 - i := ⟨xs.length - 1 - i, by omega⟩
    have hjl : j < ys.length := by omega
    have hil : i < ys.length := by omega
    rw [dT hij, ← hj]
    rw [inR_nat hjl, inR_nat hil]
    have hsl : (setAt ys (i : Int) (nth ys (j : Int))).length = ys.length := by simp [setAt]
    rw [hsl, inR_nat hjl]
    simp only [cond_true]
    refine .inl ⟨_, rfl, ⟨i + 1, ?_, ?_, ?_, by omega, ?_⟩, ?_⟩
    ·exact w64 (by omega) (by omega)
    ·simp only; rw [w64 (by omega) (by omega)]; omega
    ·simp [setAt, hlen]
    ·intro k hk'
     have gi := hk i (by omega)
     have gj := hk j (by omega)
     rw [if_neg (by omega)] at gi gj
     have ei : nth ys (i : Int) = xs[i]'(by omega) := by
      rw [nth_nat hil]; rw [List.getElem?_eq_getElem hil, List.getElem?_eq_getElem (by omega)] at gi; exact Option.some.inj gi
     have ej : nth ys (j : Int) = xs[j]'(by omega) := by
      rw [nth_nat hjl]; rw [List.getElem?_eq_getElem hjl, List.getElem?_eq_getElem (by omega)] at gj; exact Option.some.inj gj
     simp only [setAt, ei, ej, Int.toNat_natCast, List.getElem?_set, List.length_set]
     by_cases hkj : j = k
     ·subst hkj
      rw [if_pos rfl, if_pos (by omega), if_pos (by omega)]
      have : xs.length - 1 - j = i := by omega
      rw [this, List.getElem?_eq_getElem (by omega)]
     ·rw [if_neg hkj]
      by_cases hki : i = k
      ·subst hki
       rw [if_pos rfl, if_pos (by omega), if_pos (by omega)]
       have : xs.length - 1 - i = j := by omega
       rw [this, List.getElem?_eq_getElem (by omega)]
      ·rw [if_neg hki, hk k hk']
       by_cases hc : k < i ∨ xs.length ≤ k + i
       ·rw [if_pos hc, if_pos (by omega)]
       ·rw [if_neg hc, if_neg (by omega)]
    ·have := w64 (n := (i : Int) + 1) (by omega) (by omega)
     simp only [this]; omega
   ·rw [dF hij]
    refine .inr ⟨ys, rfl, ?_⟩
    apply List.ext_getElem?
    intro k
    by_cases hkl : k < xs.length
    ·rw [hk k hkl, List.getElem?_reverse hkl]
     split
     ·rfl
     ·have : k = xs.length - 1 - k := by omega
      rw [← this]
    ·rw [List.getElem?_eq_none (by omega), List.getElem?_eq_none (by simp; omega)]) big (0, (xs.length : Int) - 1, xs) ⟨0, rfl, by simp, rfl, by omega, fun k hk => by simp; omega⟩ (big_pos (by simp; omega))
 rw [h1, h2]
theorem clone_id {T : Type} [DecidableEq T] {xs : List T} (hl : xs.length ≤ 4294967296) :
  (bif (Nat.beq xs.length 0) then agree (some ([] : List T)) (bif room xs.length then (some xs) else none) else (bif room xs.length then (some xs) else none)) = some xs := by
 rw [agree_same]
 ·rw [room_of hl]; rfl
 ·intro h
  rw [room_of hl]
  have : xs = [] := List.eq_nil_of_length_eq_zero (Nat.eq_of_beq_eq_true h)
  subst this; rfl
theorem row_eq {T : Type} [Inhabited T] [DecidableEq T] {xs ys : List T} (hb : xs.length ≤ 4611686018427387904) :
  (bif (decide (¬ (xs.length : Int) = (ys.length : Int))) then (some false) else (Option.bind (loopN (fun s : Int => (bif (decide (s < (xs.length : Int))) then (bif inR s xs.length then (bif inR s ys.length then (bif (decide (¬ (nth xs s) = (nth ys s))) then (some (.inr (.inr false))) else (some (.inl (IntKind.wrap .i64 (s + 1))))) else none) else none) else (some (.inr (.inl ()))))) big 0) (joinX fun (_ : Unit) => (some true)))) = some (decide (xs = ys)) := by
 by_cases h : xs.length = ys.length
 ·rw [dF (by omega), same_loop h hb]
  by_cases he : xs = ys <;> simp [he, joinX]
 ·rw [dT (by omega), dF (by rintro rfl; exact h rfl)]; rfl
theorem bind_of {α β : Type} {x : Option α} {k : α → Option β} {r : Option β} (post : α → Prop) (h : ∃ o, x = some o ∧ post o) (hk : ∀ o, post o → k o = r) : Option.bind x k = r := by
 obtain ⟨o, rfl, h2⟩ := h
 exact hk o h2
/-! Bytes as numbers. -/
def up (l : List Nat) : List Int := l.map fun n : Nat => (n : Int)
theorem up_len (l : List Nat) : (up l).length = l.length := by simp [up]
theorem up_append (l m : List Nat) : up (l ++ m) = up l ++ up m := by simp [up]
theorem up_cons (x : Nat) (l : List Nat) : up (x :: l) = (x : Int) :: up l := rfl
theorem up_inj {l m : List Nat} (h : up l = up m) : l = m := by
 have := congrArg (List.map Int.toNat) h
 simpa [up, Function.comp_def] using this
theorem cut_up (l : List Nat) (i j : Nat) : cut (up l) (i : Int) (j : Int) = up ((l.take j).drop i) := by simp [cut, up, List.map_take, List.map_drop]
def bytesP (l : List Nat) : Prop := ∀ c ∈ l, c < 256
theorem up_of {xs : List Int} (h : WfL (WfI .u8) xs) : ∃ l, xs = up l ∧ bytesP l ∧ l.length = xs.length := by
 refine ⟨xs.map Int.toNat, ?_, ?_, by simp⟩
 ·unfold up
  rw [List.map_map]
  have : ∀ x ∈ xs, ((fun n : Nat => (n : Int)) ∘ Int.toNat) x = x := fun x hx => by
   have := wf_u8 (h.2 x hx); simp; omega
  rw [List.map_congr_left this]; simp
 ·intro c hc
  rw [List.mem_map] at hc
  obtain ⟨x, hx, rfl⟩ := hc
  have := wf_u8 (h.2 x hx); omega
theorem setAt_mid {T : Type} {pre suf : List T} {x v : T} : setAt (pre ++ x :: suf) (pre.length : Int) v = pre ++ v :: suf := by
 unfold setAt
 rw [Int.toNat_natCast, List.set_append_right _ _ (by omega)]
 simp
theorem u8m (n : Int) : IntKind.u8.wrap n = n % 256 := by
 unfold IntKind.wrap
 simp only [IntKind.signed, IntKind.bits, Bool.false_and, Bool.false_eq_true, if_false]
 rfl
end Go.Sy
