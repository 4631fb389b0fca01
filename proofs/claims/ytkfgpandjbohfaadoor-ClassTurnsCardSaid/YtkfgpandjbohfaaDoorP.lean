/-
  What those functions come to, told by plain functions of lists and numbers. Conditions: as each theorem says.
-/
import Derived.Test.YtkfgpandjbohfaaDoorGa
import Derived.Test.YtkfgpandjbohfaaDoorSyZ
namespace Go.Proofs.YtkfgpandjbohfaaDoor
open Go Go.Sy Go.RowKit Go.ChangeShapes Go.WideShapes Go.ChangeAt
set_option linter.unusedVariables false
set_option linter.unusedSimpArgs false
set_option maxRecDepth 100000
set_option maxHeartbeats 4000000


def nol : List Int := [48, 1632, 1776, 1984, 2406, 2534, 2662, 2790, 2918, 3046, 3174, 3302, 3430, 3664, 3792, 3872, 6112, 6160, 65296, 120782]
/-- Is it one of the ten behind a nought? -/
def inDig (r z : Int) : Bool := decide (z ≤ r) && decide (r ≤ z + 9)
/-- What a digit is worth. -/
def dig (r : Int) : Int × Bool := match nol.find? (inDig r) with
  | some z => (r - z, true)
  | none => (0, false)

theorem nol_small {z : Int} (h : z ∈ nol) : 48 ≤ z ∧ z ≤ 120782 := by
  have : nol.all (fun z => decide (48 ≤ z) && decide (z ≤ 120782)) = true := by decide +kernel
  have h2 := List.all_eq_true.1 this z h
  simpa using h2

theorem find_none_of {p : Int → Bool} {l : List Int} (h : l.all (fun z => !p z) = true) : l.find? p = none := by
  rw [List.find?_eq_none]
  intro x hx
  have := List.all_eq_true.1 h x hx
  simpa using this

theorem find_mid {p : Int → Bool} {pre suf : List Int} {x : Int} (h : pre.all (fun z => !p z) = true) (hx : p x = true) : (pre ++ x :: suf).find? p = some x := by
  rw [List.find?_append, find_none_of h]
  simp [hx]

theorem value_eq {r : Int} (h1 : -2147483648 ≤ r) (h2 : r < 2147483648) : class_Value r = some (dig r) := by
  unfold class_Value
  refine bind_of (fun o => o = (match nol.find? (inDig r) with | some z => .inr (r - z, true) | none => .inl ())) (loop_row nol (fun pre => (pre.length : Int)) (fun pre => pre.all (fun z => !inDig r z) = true) _ rfl rfl (fun pre x suf h hi => ?_) (fun hi => ?_) (by decide)) ?_
  · have hx := nol_small (show x ∈ nol by rw [h]; simp)
    have hlen : pre.length < 20 := by have := congrArg List.length h; simp [nol] at this; omega
    rw [show ([48, 1632, 1776, 1984, 2406, 2534, 2662, 2790, 2918, 3046, 3174, 3302, 3430, 3664, 3792, 3872, 6112, 6160, 65296, 120782] : List Int) = pre ++ x :: suf from h, dT (show (pre.length : Int) < 20 by omega), inR_nat (by omega), nth_mid, w32 (n := x + 9) (by omega) (by omega), w64 (n := (pre.length : Int) + 1) (by omega) (by omega)]
    cases hd : inDig r x with
    | true =>
      right
      unfold inDig at hd
      simp only [Bool.and_eq_true, decide_eq_true_eq] at hd
      rw [dT hd.1, dT hd.2, w32 (n := r - x) (by omega) (by omega), w64 (n := r - x) (by omega) (by omega)]
      refine ⟨_, rfl, ?_⟩
      rw [h, find_mid hi (by unfold inDig; rw [dT hd.1, dT hd.2]; rfl)]
    | false =>
      left
      refine ⟨?_, by rw [List.all_append, hi]; simp [hd]⟩
      have hl : ((pre ++ [x]).length : Int) = (pre.length : Int) + 1 := by simp
      unfold inDig at hd
      by_cases hxr : x ≤ r
      · rw [dT hxr] at hd ⊢
        simp only [Bool.true_and] at hd
        simp only [cond_true, hd, Option.bind_some, cond_false, joinX, hl]
      · rw [dF hxr]
        simp only [cond_false, cond_true, Option.bind_some, joinX, hl]
  · refine ⟨.inl (), ?_, by rw [find_none_of hi]⟩
    rw [dF (show ¬ ((nol.length : Int) < 20) by decide)]; rfl
  · rintro o rfl
    unfold dig
    cases nol.find? (inDig r) <;> rfl

theorem dig_spec {r : Int} (h : (dig r).2 = true) : ∃ z ∈ nol, 0 ≤ (dig r).1 ∧ (dig r).1 ≤ 9 ∧ r = z + (dig r).1 := by
  unfold dig at h ⊢
  cases hf : nol.find? (inDig r) with
  | none => rw [hf] at h; cases h
  | some z =>
    have hz := List.find?_some hf
    unfold inDig at hz
    simp only [Bool.and_eq_true, decide_eq_true_eq] at hz
    exact ⟨z, List.mem_of_find?_eq_some hf, by show 0 ≤ r - z; omega, by show r - z ≤ 9; omega, by show r = z + (r - z); omega⟩

theorem dig_no {r : Int} (h : (dig r).2 = false) : (dig r).1 = 0 := by
  unfold dig at h ⊢
  cases hf : nol.find? (inDig r) with
  | none => rfl
  | some z => rw [hf] at h; cases h

theorem dig_at {z : Int} (hz : z ∈ nol) {k : Nat} (hk : k < 10) : dig (z + (k : Int)) = ((k : Int), true) := by
  have : nol.all (fun z => (List.range 10).all fun k => decide (dig (z + (k : Int)) = ((k : Int), true))) = true := by decide +kernel
  have h2 := List.all_eq_true.1 (List.all_eq_true.1 this z hz) k (List.mem_range.2 hk)
  simpa using h2

theorem dig_nought {r : Int} (h : (dig r).2 = true) (h0 : (dig r).1 = 0) : r ∈ nol := by
  obtain ⟨z, hz, _, _, he⟩ := dig_spec h
  rw [h0] at he
  rw [he]; simpa using hz

def isZ (r : Int) : Bool := (dig r).2 && decide ((dig r).1 = 0)
theorem isZ_mem {r : Int} : isZ r = true ↔ r ∈ nol := by
  unfold isZ
  simp only [Bool.and_eq_true, decide_eq_true_eq]
  constructor
  · rintro ⟨h1, h2⟩; exact dig_nought h1 h2
  · intro h
    have := dig_at h (k := 0) (by omega)
    simp at this
    rw [this]; exact ⟨rfl, rfl⟩

theorem zero_eq {r : Int} (h1 : -2147483648 ≤ r) (h2 : r < 2147483648) : class_Zero r = some (isZ r) := by
  unfold class_Zero isZ
  rw [value_eq h1 h2]
  simp only [Option.bind_some]
  cases (dig r).2 <;> rfl

/-- The document's. -/
theorem rvalue_eq {r : Int} (h1 : -2147483648 ≤ r) (h2 : r < 2147483648) : exergueref02_Value r = some (dig r) := by
  unfold exergueref02_Value exergueref02_noughts
  rw [w64 (n := r) (by omega) (by omega)]
  simp only [Option.bind_some]
  refine bind_of (fun o => o = (match nol.find? (inDig r) with | some z => .inr (r - z, true) | none => .inl ())) (loop_row nol (fun pre => (pre.length : Int)) (fun pre => pre.all (fun z => !inDig r z) = true) _ rfl rfl (fun pre x suf h hi => ?_) (fun hi => ?_) (by decide)) ?_
  · have hx := nol_small (show x ∈ nol by rw [h]; simp)
    have hlen : pre.length < 20 := by have := congrArg List.length h; simp [nol] at this; omega
    have hn : ([48, 1632, 1776, 1984, 2406, 2534, 2662, 2790, 2918, 3046, 3174, 3302, 3430, 3664, 3792, 3872, 6112, 6160, 65296, 120782] : List Int) = pre ++ x :: suf := h
    have hcount : ∃ o, loopN (fun (s601 : Int) => (bif (decide (s601 < 10)) then (bif inR (pre.length : Int) (pre ++ x :: suf).length then (bif (decide (((IntKind.wrap .i64 ((IntKind.wrap .i64 (nth (pre ++ x :: suf) (pre.length : Int))) + s601))) = r)) then (some (.inr (.inr (.inr (.inr (s601, true)))))) else (some (.inl (IntKind.wrap .i64 (s601 + 1))))) else none) else (some (.inr (.inl ()))))) big 0 = some o ∧
        o = (if inDig r x = true then (.inr (.inr (.inr (r - x, true))) : Unit ⊕ (Int ⊕ (Unit ⊕ (Int × Bool)))) else .inl ()) := by
      refine loop_count 10 (fun i => (i : Int)) (fun i => ∀ j : Nat, j < i → ¬ x + (j : Int) = r) _ rfl (fun j hj => by omega) (fun i hi hno => ?_) (fun hno => ?_) (by omega)
      · rw [dT (show (i : Int) < 10 by omega), inR_nat (by simp), nth_mid, w64 (n := x) (by omega) (by omega), w64 (n := x + (i : Int)) (by omega) (by omega), w64 (n := (i : Int) + 1) (by omega) (by omega)]
        by_cases he : x + (i : Int) = r
        · right
          rw [dT he]
          refine ⟨_, rfl, ?_⟩
          rw [if_pos (by unfold inDig; rw [dT (by omega), dT (by omega)]; rfl)]
          have : (i : Int) = r - x := by omega
          rw [this]
        · left
          rw [dF he]
          refine ⟨by simp, fun j hj => ?_⟩
          by_cases hji : j = i
          · subst hji; exact he
          · exact hno j (by omega)
      · refine ⟨.inl (), by rw [dF (show ¬ ((10 : Nat) : Int) < 10 by decide)]; rfl, ?_⟩
        rw [if_neg]
        intro hd
        unfold inDig at hd
        simp only [Bool.and_eq_true, decide_eq_true_eq] at hd
        exact hno (r - x).toNat (by omega) (by omega)
    obtain ⟨o, ho1, ho2⟩ := hcount
    rw [hn, lt_mid]
    simp only [cond_true]
    rw [ho1]
    simp only [Option.bind_some]
    cases hd : inDig r x with
    | true =>
      right
      rw [hd, if_pos rfl] at ho2
      subst ho2
      refine ⟨_, rfl, ?_⟩
      rw [h, find_mid hi hd]
    | false =>
      left
      rw [hd, if_neg (by simp)] at ho2
      subst ho2
      refine ⟨?_, by rw [List.all_append, hi]; simp [hd]⟩
      simp only [joinX]
      rw [w64 (n := (pre.length : Int) + 1) (by omega) (by omega)]
      simp
  · refine ⟨.inl (), ?_, by rw [find_none_of hi]⟩
    rw [show ([48, 1632, 1776, 1984, 2406, 2534, 2662, 2790, 2918, 3046, 3174, 3302, 3430, 3664, 3792, 3872, 6112, 6160, 65296, 120782] : List Int) = nol from rfl, lt_end]; rfl
  · rintro o rfl
    unfold dig
    cases nol.find? (inDig r) <;> rfl

theorem rzero_eq {r : Int} : exergueref02_Zero r = some (isZ r) := by
  unfold exergueref02_Zero exergueref02_noughts
  simp only [Option.bind_some]
  refine bind_of (fun o => o = (if r ∈ nol then .inr true else .inl ())) (loop_row nol (fun pre => (pre.length : Int)) (fun pre => ¬ r ∈ pre) _ rfl (by simp) (fun pre x suf h hi => ?_) (fun hi => ?_) (by decide)) ?_
  · have hlen : pre.length < 20 := by have := congrArg List.length h; simp [nol] at this; omega
    rw [show ([48, 1632, 1776, 1984, 2406, 2534, 2662, 2790, 2918, 3046, 3174, 3302, 3430, 3664, 3792, 3872, 6112, 6160, 65296, 120782] : List Int) = pre ++ x :: suf from h, lt_mid, inR_mid, nth_mid, w64 (n := (pre.length : Int) + 1) (by omega) (by omega)]
    by_cases he : x = r
    · right
      rw [dT he]
      refine ⟨_, rfl, ?_⟩
      rw [if_pos (by rw [h]; simp [he])]
    · left
      rw [dF he]
      exact ⟨by simp, by simp [hi, Ne.symm he]⟩
  · refine ⟨.inl (), ?_, by rw [if_neg hi]⟩
    rw [show ([48, 1632, 1776, 1984, 2406, 2534, 2662, 2790, 2918, 3046, 3174, 3302, 3430, 3664, 3792, 3872, 6112, 6160, 65296, 120782] : List Int) = nol from rfl, lt_end]; rfl
  · rintro o rfl
    by_cases hm : r ∈ nol
    · rw [if_pos hm, isZ_mem.2 hm]; rfl
    · rw [if_neg hm]
      have : isZ r = false := by cases hz : isZ r with
        | false => rfl
        | true => exact absurd (isZ_mem.1 hz) hm
      rw [this]; rfl


/-- A loop over a map where all that end it end it alike. -/
theorem mapRun_of {E X : Type} [DecidableEq X] (f : E → Option (Unit ⊕ X)) (hit : E → Bool) (v : X) : ∀ (ms : List E), (∀ e ∈ ms, f e = some (if hit e = true then .inr v else .inl ())) → mapRun f ms = some (if ms.any hit = true then .inr v else .inl ())
  | [], _ => rfl
  | e :: r, h => by
    have ih := mapRun_of f hit v r fun x hx => h x (List.mem_cons_of_mem _ hx)
    simp only [mapRun, h e (List.mem_cons_self ..), ih, List.any_cons]
    by_cases h1 : hit e = true
    · by_cases h2 : r.any hit = true
      · simp only [h1, h2, if_true, Bool.or_self]
      · simp only [h1, h2, if_true, Bool.true_or, if_false, Bool.false_eq_true]
    · have h1' : hit e = false := by simpa using h1
      simp only [h1', if_false, Bool.false_or, Bool.false_eq_true]

def rngs : List (St38 × Int) := [((⟨0, 31⟩ : St38), 1), ((⟨127, 159⟩ : St38), 1), ((⟨1564, 1564⟩ : St38), 2), ((⟨8206, 8207⟩ : St38), 2), ((⟨8234, 8238⟩ : St38), 2), ((⟨8294, 8297⟩ : St38), 2), ((⟨64976, 65007⟩ : St38), 3), ((⟨32, 32⟩ : St38), 4), ((⟨160, 160⟩ : St38), 4), ((⟨5760, 5760⟩ : St38), 4), ((⟨8192, 8202⟩ : St38), 4), ((⟨8232, 8233⟩ : St38), 4), ((⟨8239, 8239⟩ : St38), 4), ((⟨8287, 8287⟩ : St38), 4), ((⟨12288, 12288⟩ : St38), 4)]
def eqK (a b : St38) : Bool := (decide (a.a0_ = b.a0_)) && ((decide (a.a1_ = b.a1_)) && true)
def hitR (r : Int) (e : St38 × Int) : Bool := decide (e.1.a0_ ≤ r) && decide (r ≤ e.1.a1_)
/-- The class by the table. -/
def tab (r : Int) : Int := match rngs.find? (hitR r) with
  | some e => e.2
  | none => 0

theorem mget_same {ms : List (St38 × Int)} (h : ∀ a ∈ ms, ∀ b ∈ ms, eqK a.1 b.1 = true → b.2 = a.2) {e : St38 × Int} (he : e ∈ ms) : mget eqK ms e.1 = some e.2 := by
  have key : ∀ l : List (St38 × Int), (∀ b ∈ l, eqK e.1 b.1 = true → b.2 = e.2) → e ∈ l → mget eqK l e.1 = some e.2 := by
    intro l
    induction l with
    | nil => intro _ h; simp at h
    | cons b r ih =>
      intro hb hm
      simp only [mget]
      cases hq : eqK e.1 b.1 with
      | true => simp only [cond_true]; rw [hb b (List.mem_cons_self ..) hq]
      | false =>
        simp only [cond_false]
        refine ih (fun x hx => hb x (List.mem_cons_of_mem _ hx)) ?_
        rcases List.mem_cons.1 hm with rfl | hm
        · exfalso; revert hq; unfold eqK; simp
        · exact hm
  exact key ms (fun b hb => h e he b hb) he

theorem rngs_same : ∀ a ∈ rngs, ∀ b ∈ rngs, eqK a.1 b.1 = true → b.2 = a.2 := by decide +kernel
theorem rngs_apart : ∀ a ∈ rngs, ∀ b ∈ rngs, a = b ∨ a.1.a1_ < b.1.a0_ ∨ b.1.a1_ < a.1.a0_ := by decide +kernel

theorem tab_hit {r : Int} {e : St38 × Int} (he : e ∈ rngs) (hh : hitR r e = true) : tab r = e.2 := by
  unfold tab
  cases hf : rngs.find? (hitR r) with
  | none =>
    rw [List.find?_eq_none] at hf
    exact absurd hh (by simpa using hf e he)
  | some e' =>
    have h1 := List.find?_some hf
    have h2 := List.mem_of_find?_eq_some hf
    unfold hitR at h1 hh
    simp only [Bool.and_eq_true, decide_eq_true_eq] at h1 hh
    rcases rngs_apart e he e' h2 with h | h | h
    · rw [h]
    · omega
    · omega

def isR (r : Int) : Bool := decide (0 ≤ r) && (decide (r ≤ 1114111) && (decide (r < 55296) || decide (57343 < r)))
theorem is_eq {r : Int} : utf_Is r = some (isR r) := by
  unfold utf_Is isR
  by_cases h1 : 0 ≤ r
  · rw [dT (show r ≥ 0 from h1)]
    by_cases h2 : r ≤ 1114111
    · rw [dT h2]
      by_cases h3 : r < 55296
      · rw [dT h3]; rfl
      · rw [dF h3]
        by_cases h4 : r > 57343
        · rw [dT h4]; rfl
        · rw [dF h4]; rfl
    · rw [dF h2]; rfl
  · rw [dF (show ¬ r ≥ 0 from h1)]; rfl

/-- The class, as the program finds it. -/
def cls (r : Int) : Int := if isR r = true then (if bits .and .i32 r 65534 = 65534 then 3 else if rngs.any (hitR r) = true then tab r else if (dig r).2 = true then 5 else 0) else 6

theorem table_eq {r : Int} (h1 : -2147483648 ≤ r) (h2 : r < 2147483648) {ms : List (St38 × Int)} (hp : List.Perm ms rngs) : class_table__class_s0 r ms = some (cls r, ms) := by
  unfold class_table__class_s0 cls
  rw [is_eq]
  simp only [Option.bind_some]
  cases hr : isR r with
  | false => rfl
  | true =>
    simp only [Bool.not_true, cond_false, if_true]
    by_cases hb : bits .and .i32 r 65534 = 65534
    · rw [dT hb, if_pos hb]; rfl
    · rw [dF hb, if_neg hb]
      simp only [cond_false]
      have hsame : ∀ a ∈ ms, ∀ b ∈ ms, eqK a.1 b.1 = true → b.2 = a.2 := fun a ha b hb => rngs_same a (hp.mem_iff.1 ha) b (hp.mem_iff.1 hb)
      have hany : ms.any (hitR r) = rngs.any (hitR r) := by
        rw [Bool.eq_iff_iff]
        simp only [List.any_eq_true]
        exact ⟨fun ⟨x, hx, h⟩ => ⟨x, hp.mem_iff.1 hx, h⟩, fun ⟨x, hx, h⟩ => ⟨x, hp.mem_iff.2 hx, h⟩⟩
      rw [mapRun_of _ (hitR r) (.inr (tab r, ms)) ms (fun e he => ?_), hany, value_eq h1 h2]
      · cases rngs.any (hitR r) with
        | true => rfl
        | false =>
          simp only [Option.bind_some, joinX, if_false, Bool.false_eq_true]
          cases (dig r).2 <;> rfl
      · have hg : (mget (fun a b : St38 => ((decide (a.a0_ = b.a0_)) && ((decide (a.a1_ = b.a1_)) && true))) ms e.1) = some e.2 := mget_same hsame he
        rw [hg]
        have ht : hitR r e = true → tab r = e.2 := fun h => tab_hit (hp.mem_iff.1 he) h
        unfold hitR at ht ⊢
        by_cases q1 : e.1.a0_ ≤ r
        · rw [dT q1] at ht ⊢
          by_cases q2 : r ≤ e.1.a1_
          · rw [dT q2] at ht ⊢
            simp only [cond_true, Option.bind_some, Bool.true_and, if_true, Option.getD_some]
            rw [ht rfl]
          · rw [dF q2]; rfl
        · rw [dF q1]; rfl

theorem of_eq {r : Int} (h1 : -2147483648 ≤ r) (h2 : r < 2147483648) : class_Of r = some (cls r) := by
  unfold class_Of class_ranges_s0
  simp only [Option.bind_some]
  exact anyOrd_of fun ms hp => by rw [table_eq h1 h2 hp]; rfl

theorem and_plane (n : Nat) : (n &&& 65534 = 65534) ↔ 65534 ≤ n % 65536 := by
  have h1 : n &&& 65534 = (n % 65536) &&& 65534 := by
    apply Nat.eq_of_testBit_eq
    intro i
    rw [Nat.testBit_and, Nat.testBit_and, show (65536 : Nat) = 2 ^ 16 by decide, Nat.testBit_mod_two_pow]
    by_cases hi : i < 16
    · simp [hi]
    · have : (65534 : Nat).testBit i = false := Nat.testBit_lt_two_pow (Nat.lt_of_lt_of_le (show (65534 : Nat) < 2 ^ 16 by decide) (Nat.pow_le_pow_right (by omega) (by omega)))
      simp [this]
  rw [h1]
  have h2 : n % 65536 < 65536 := Nat.mod_lt _ (by omega)
  generalize n % 65536 = m at h2
  constructor
  · intro h
    rcases Nat.lt_or_ge m 65534 with hm | hm
    · have := Nat.and_le_left (n := m) (m := 65534)
      omega
    · exact hm
  · intro h
    obtain rfl | rfl : m = 65534 ∨ m = 65535 := by omega
    · decide
    · decide

theorem and_i32 {r : Int} (h1 : 0 ≤ r) (h2 : r < 2147483648) : bits .and .i32 r 65534 = ((r.toNat &&& 65534 : Nat) : Int) := by
  obtain ⟨n, rfl⟩ := Int.eq_ofNat_of_zero_le h1
  have hn : n < 2147483648 := by omega
  have hle : n &&& 65534 ≤ 65534 := Nat.and_le_right
  have ho : ∀ a : Nat, a < 4294967296 → (BitVec.ofInt 32 (a : Int)).toNat = a := fun a ha => by
    rw [BitVec.ofInt_natCast, BitVec.toNat_ofNat]; exact Nat.mod_eq_of_lt (by omega)
  show IntKind.i32.wrap ((BitVec.ofInt 32 (n : Int) &&& BitVec.ofInt 32 ((65534 : Nat) : Int)).toNat : Int) = _
  rw [BitVec.toNat_and, ho n (by omega), ho 65534 (by omega), w32 (by omega) (by omega)]
  simp

/-- The class, as the document has it. -/
def ctrl (r : Int) : Bool := decide (r < 32) || decide (127 ≤ r) && decide (r ≤ 159)
def turning (r : Int) : Bool := decide (r = 1564) || (decide (r = 8206) || (decide (r = 8207) || (decide (8234 ≤ r) && decide (r ≤ 8238) || decide (8294 ≤ r) && decide (r ≤ 8297))))
def nonch (r : Int) : Bool := decide (64976 ≤ r) && decide (r ≤ 65007) || decide (65534 ≤ r % 65536)
def blank (r : Int) : Bool := decide (r = 32) || (decide (r = 160) || (decide (r = 5760) || (decide (8192 ≤ r) && decide (r ≤ 8202) || (decide (r = 8232) || (decide (r = 8233) || (decide (r = 8239) || (decide (r = 8287) || decide (r = 12288))))))))
def rcls (r : Int) : Int := bif isR r then (bif ctrl r then 1 else bif turning r then 2 else bif nonch r then 3 else bif blank r then 4 else bif (dig r).2 then 5 else 0) else 6

theorem cls_eq {r : Int} (h1 : -2147483648 ≤ r) (h2 : r < 2147483648) : cls r = rcls r := by
  unfold cls rcls
  cases hr : isR r with
  | false => rfl
  | true =>
    simp only [if_true, cond_true]
    unfold isR at hr
    simp only [Bool.and_eq_true, Bool.or_eq_true, decide_eq_true_eq] at hr
    obtain ⟨r0, r1, r2⟩ := hr
    have hb : (bits .and .i32 r 65534 = 65534) ↔ 65534 ≤ r % 65536 := by
      rw [and_i32 r0 h2]
      have := and_plane r.toNat
      omega
    by_cases hp : 65534 ≤ r % 65536
    · rw [if_pos (hb.2 hp)]
      have c1 : ctrl r = false := by unfold ctrl; rw [dF (by omega), dF (show ¬ r ≤ 159 by omega)]; simp
      have c2 : turning r = false := by
        unfold turning
        rw [dF (show ¬ r = 1564 by omega), dF (show ¬ r = 8206 by omega), dF (show ¬ r = 8207 by omega), dF (show ¬ r ≤ 8238 by omega), dF (show ¬ r ≤ 8297 by omega)]; simp
      have c3 : nonch r = true := by unfold nonch; rw [dT hp]; simp
      rw [c1, c2, c3]; rfl
    · rw [if_neg (fun h => hp (hb.1 h))]
      have hn : nonch r = (decide (64976 ≤ r) && decide (r ≤ 65007)) := by unfold nonch; rw [dF hp]; simp
      rw [hn]
      generalize (dig r).2 = dg
      simp only [tab, rngs, List.any_cons, List.any_nil, List.find?_cons, List.find?_nil, hitR, Bool.or_false]
      by_cases a1 : r ≤ 31
      · rw [dT (show (0 : Int) ≤ r from r0), dT a1, show ctrl r = true by unfold ctrl; rw [dT (show r < 32 by omega)]; rfl]; rfl
      rw [dF a1]
      by_cases a2 : 127 ≤ r ∧ r ≤ 159
      · rw [dT a2.1, dT a2.2, show ctrl r = true by unfold ctrl; rw [dT a2.1, dT a2.2]; simp]; simp
      rw [show ctrl r = false by unfold ctrl; rw [dF (show ¬ r < 32 by omega)]; simp; omega, show (decide (127 ≤ r) && decide (r ≤ 159)) = false by simp; omega]
      by_cases t1 : turning r = true
      · rw [t1]
        unfold turning at t1
        simp only [Bool.or_eq_true, Bool.and_eq_true, decide_eq_true_eq] at t1
        rcases t1 with h | h | h | ⟨h, h'⟩ | ⟨h, h'⟩
        · subst h; simp
        · subst h; simp
        · subst h; simp
        · rw [dF (show ¬ r ≤ 1564 by omega), dF (show ¬ r ≤ 8207 by omega), dT h, dT h']; simp
        · rw [dF (show ¬ r ≤ 1564 by omega), dF (show ¬ r ≤ 8207 by omega), dF (show ¬ r ≤ 8238 by omega), dT h, dT h']; simp
      have t1' : turning r = false := by simpa using t1
      rw [t1']
      have u1 : (decide (1564 ≤ r) && decide (r ≤ 1564)) = false ∧ (decide (8206 ≤ r) && decide (r ≤ 8207)) = false ∧ (decide (8234 ≤ r) && decide (r ≤ 8238)) = false ∧ (decide (8294 ≤ r) && decide (r ≤ 8297)) = false := by
        unfold turning at t1'
        simp only [Bool.or_eq_false_iff, Bool.and_eq_false_iff, decide_eq_false_iff_not] at t1' ⊢
        omega
      rw [u1.1, u1.2.1, u1.2.2.1, u1.2.2.2]
      by_cases n1 : 64976 ≤ r ∧ r ≤ 65007
      · rw [dT n1.1, dT n1.2]; simp
      rw [show (decide (64976 ≤ r) && decide (r ≤ 65007)) = false by simp; omega]
      by_cases b1 : blank r = true
      · rw [b1]
        unfold blank at b1
        simp only [Bool.or_eq_true, Bool.and_eq_true, decide_eq_true_eq] at b1
        rcases b1 with h | h | h | ⟨h, h'⟩ | h | h | h | h | h
        · subst h; simp
        · subst h; simp
        · subst h; simp
        · rw [dF (show ¬ r ≤ 32 by omega), dF (show ¬ r ≤ 160 by omega), dF (show ¬ r ≤ 5760 by omega), dT h, dT h']; simp
        · subst h; simp
        · subst h; simp
        · subst h; simp
        · subst h; simp
        · subst h; simp
      have b1' : blank r = false := by simpa using b1
      rw [b1']
      have u2 : (decide (32 ≤ r) && decide (r ≤ 32)) = false ∧ (decide (160 ≤ r) && decide (r ≤ 160)) = false ∧ (decide (5760 ≤ r) && decide (r ≤ 5760)) = false ∧ (decide (8192 ≤ r) && decide (r ≤ 8202)) = false ∧ (decide (8232 ≤ r) && decide (r ≤ 8233)) = false ∧ (decide (8239 ≤ r) && decide (r ≤ 8239)) = false ∧ (decide (8287 ≤ r) && decide (r ≤ 8287)) = false ∧ (decide (12288 ≤ r) && decide (r ≤ 12288)) = false := by
        unfold blank at b1'
        simp only [Bool.or_eq_false_iff, Bool.and_eq_false_iff, decide_eq_false_iff_not] at b1' ⊢
        omega
      rw [u2.1, u2.2.1, u2.2.2.1, u2.2.2.2.1, u2.2.2.2.2.1, u2.2.2.2.2.2.1, u2.2.2.2.2.2.2.1, u2.2.2.2.2.2.2.2]
      cases dg <;> simp

theorem ris_eq {r : Int} (h1 : -2147483648 ≤ r) (h2 : r < 2147483648) : exergueref01_Is r = some (isR r) := by
  unfold exergueref01_Is isR
  rw [w64 (n := r) (by omega) (by omega)]
  by_cases a : 0 ≤ r
  · rw [dT (show r ≥ 0 from a)]
    by_cases b : r < 55296
    · rw [dT b, dT (show r ≤ 1114111 by omega)]; rfl
    · rw [dF b]
      by_cases c : r > 57343
      · rw [dT c]
        cases decide (r ≤ 1114111) <;> rfl
      · rw [dF c]
        cases decide (r ≤ 1114111) <;> rfl
  · rw [dF (show ¬ r ≥ 0 from a), dF (show ¬ r > 57343 by omega)]; rfl

theorem turning_eq {r : Int} : exergueref02_turning r = some (turning r) := by
  unfold exergueref02_turning turning
  simp only [ge_iff_le]
  cases decide (r = 1564) <;> cases decide (r = 8206) <;> cases decide (r = 8207) <;> cases decide (8234 ≤ r) <;> cases decide (r ≤ 8238) <;> cases decide (8294 ≤ r) <;> rfl

theorem blank_eq {r : Int} : exergueref02_blank r = some (blank r) := by
  unfold exergueref02_blank blank
  simp only [ge_iff_le]
  cases decide (r = 32) <;> cases decide (r = 160) <;> cases decide (r = 5760) <;> cases decide (8192 ≤ r) <;> cases decide (r ≤ 8202) <;> cases decide (r = 8232) <;> cases decide (r = 8233) <;> cases decide (r = 8239) <;> cases decide (r = 8287) <;> rfl

theorem rof_eq {r : Int} (h1 : -2147483648 ≤ r) (h2 : r < 2147483648) : exergueref02_Of r = some (rcls r) := by
  unfold exergueref02_Of rcls
  rw [w64 (n := r) (by omega) (by omega), ris_eq h1 h2, turning_eq, blank_eq, rvalue_eq h1 h2]
  simp only [Option.bind_some]
  cases hr : isR r with
  | false => rfl
  | true =>
    have r0 : 0 ≤ r := by unfold isR at hr; simp only [Bool.and_eq_true, decide_eq_true_eq] at hr; exact hr.1
    have hm : Int.tmod r 65536 = r % 65536 := Int.tmod_eq_emod_of_nonneg r0
    rw [hm]
    unfold ctrl nonch
    simp only [ge_iff_le]
    cases decide (r < 32) <;> cases decide (127 ≤ r) <;> cases decide (r ≤ 159) <;> cases turning r <;> cases decide (64976 ≤ r) <;> cases decide (r ≤ 65007) <;> cases decide (65534 ≤ r % 65536) <;> cases blank r <;> cases (dig r).2 <;> rfl


def i32P (l : List Int) : Prop := ∀ r ∈ l, -2147483648 ≤ r ∧ r < 2147483648
theorem i32_of {l : List Int} (h : WfL (WfI .i32) l) : i32P l := fun r hr => wf_i32 (h.2 r hr)
theorem rcls_in (r : Int) : 0 ≤ rcls r ∧ rcls r ≤ 6 := by
  unfold rcls
  cases isR r <;> cases ctrl r <;> cases turning r <;> cases nonch r <;> cases blank r <;> cases (dig r).2 <;> decide
def okC (c : Int) : Bool := decide (c = 0) || (decide (c = 4) || (decide (c = 5) || decide (c = 2)))
def calm (l : List Int) : Bool := l.all fun r => okC (rcls r)

theorem calm_eq {l : List Int} (hl : l.length ≤ 4294967296) (hp : i32P l) : class_Calm l = some (calm l) := by
  unfold class_Calm class_ranges_s0
  simp only [Option.bind_some]
  refine anyOrd_of fun ms hm => ?_
  refine bind_of (fun o => o = if l.all (fun r => okC (rcls r)) = true then .inl () else .inr false) ⟨_, loop_all (fun r => okC (rcls r)) l (fun pre => ((pre.length : Int), ms)) (.inl ()) (.inr false) rfl (fun pre r suf h => ?_) ?_ (by omega), rfl⟩ ?_
  · have hr := hp r (by rw [h]; simp)
    have hl' : (pre ++ r :: suf).length ≤ 4611686018427387904 := by rw [← h]; omega
    simp only []
    rw [h, lt_mid, inR_mid, nth_mid, table_eq hr.1 hr.2 hm, cls_eq hr.1 hr.2]
    simp only [cond_true, Option.bind_some]
    rw [w_mid hl']
    unfold okC
    cases decide (rcls r = 0) <;> cases decide (rcls r = 4) <;> cases decide (rcls r = 5) <;> cases decide (rcls r = 2) <;> simp [joinX]
  · simp only []
    rw [lt_end]; rfl
  · rintro o rfl
    show _ = some (l.all _)
    cases l.all (fun r => okC (rcls r)) <;> rfl

theorem rcalm_eq {l : List Int} (hl : l.length ≤ 4294967296) (hp : i32P l) : exergueref02_Calm l = some (calm l) := by
  unfold exergueref02_Calm
  refine bind_of (fun o => o = if l.all (fun r => okC (rcls r)) = true then .inl () else .inr false) ⟨_, loop_all (fun r => okC (rcls r)) l (fun pre => (pre.length : Int)) (.inl ()) (.inr false) rfl (fun pre r suf h => ?_) ?_ (by omega), rfl⟩ ?_
  · have hr := hp r (by rw [h]; simp)
    have hl' : (pre ++ r :: suf).length ≤ 4611686018427387904 := by rw [← h]; omega
    rw [h, lt_mid, inR_mid, nth_mid, rof_eq hr.1 hr.2]
    simp only [cond_true, Option.bind_some]
    rw [w_mid hl']
    obtain ⟨c0, c1⟩ := rcls_in r
    unfold okC
    generalize rcls r = c at c0 c1
    obtain rfl | rfl | rfl | rfl | rfl | rfl | rfl : c = 0 ∨ c = 1 ∨ c = 2 ∨ c = 3 ∨ c = 4 ∨ c = 5 ∨ c = 6 := by omega
    all_goals simp [joinX]
  · rw [lt_end]; rfl
  · rintro o rfl
    show _ = some (l.all _)
    cases l.all (fun r => okC (rcls r)) <;> rfl

/-- Does a row turn well, if so many are open? -/
def turns : Int → List Int → Bool
  | o, [] => decide (o = 0)
  | o, r :: l => if 8234 ≤ r ∧ r ≤ 8238 then false else if 8294 ≤ r ∧ r ≤ 8296 then turns (o + 1) l else if r = 8297 then (if o = 0 then false else turns (o - 1) l) else turns o l

def opn (l : List Int) : Int := l.foldl (fun o r => if 8294 ≤ r ∧ r ≤ 8296 then o + 1 else if r = 8297 then o - 1 else o) 0
theorem opn_snoc (l : List Int) (r : Int) : opn (l ++ [r]) = if 8294 ≤ r ∧ r ≤ 8296 then opn l + 1 else if r = 8297 then opn l - 1 else opn l := by
  simp [opn, List.foldl_append]

def TI (l pre : List Int) : Prop := (∀ suf, l = pre ++ suf → turns 0 l = turns (opn pre) suf) ∧ 0 ≤ opn pre ∧ opn pre ≤ pre.length

theorem turns_eq {l : List Int} (hl : l.length ≤ 4294967296) : class_Turns l = some (turns 0 l) := by
  unfold class_Turns
  refine bind_of (fun o => (o = .inr false ∧ turns 0 l = false) ∨ ∃ q, o = .inl q ∧ turns 0 l = decide (q = 0)) (loop_row l (fun pre => (opn pre, (pre.length : Int))) (TI l) _ rfl ⟨fun suf h => by rw [h]; rfl, Int.le_refl _, Int.le_refl _⟩ (fun pre r suf h hi => ?_) (fun hi => ?_) (by omega)) ?_
  · obtain ⟨i1, i2, i3⟩ := hi
    have hl' : (pre ++ r :: suf).length ≤ 4611686018427387904 := by rw [← h]; omega
    have hpl : pre.length < l.length := by rw [h]; simp
    have e := i1 (r :: suf) h
    simp only [turns] at e
    have hsnoc : (((pre ++ [r]).length : Nat) : Int) = (pre.length : Int) + 1 := by simp
    have nxt : ∀ q, turns 0 l = turns q suf → opn (pre ++ [r]) = q → 0 ≤ q → q ≤ (pre.length : Int) + 1 → TI (pre ++ r :: suf) (pre ++ [r]) := fun q h1 h2 h3 h4 => by
     rw [← h]
     exact ⟨fun s hs => by
      rw [h2]
      have : suf = s := by
        have h5 := h.symm.trans hs
        simpa using h5
      rw [← this]; exact h1, by rw [h2]; exact h3, by rw [h2, hsnoc]; exact h4⟩
    simp only []
    rw [h, lt_mid, inR_mid, nth_mid, w_mid hl']
    by_cases a : 8234 ≤ r ∧ r ≤ 8238
    · right
      rw [if_pos a] at e
      rw [dT a.1, dT a.2]
      exact ⟨_, rfl, .inl ⟨rfl, by rw [← h]; exact e⟩⟩
    · rw [if_neg a] at e
      have a' : (bif decide (8234 ≤ r) then some (decide (r ≤ 8238)) else some false) = some false := by
        by_cases q : 8234 ≤ r
        · rw [dT q, dF (fun z => a ⟨q, z⟩)]; rfl
        · rw [dF q]; rfl
      rw [a']
      by_cases b : 8294 ≤ r ∧ r ≤ 8296
      · left
        rw [if_pos b] at e
        have hs := opn_snoc pre r
        rw [if_pos b] at hs
        rw [dT b.1, dT b.2, w64 (n := opn pre + 1) (by omega) (by omega), hs]
        exact ⟨rfl, nxt _ e hs (by omega) (by omega)⟩
      · rw [if_neg b] at e
        have b' : (bif decide (8294 ≤ r) then some (decide (r ≤ 8296)) else some false) = some false := by
          by_cases q : 8294 ≤ r
          · rw [dT q, dF (fun z => b ⟨q, z⟩)]; rfl
          · rw [dF q]; rfl
        rw [b']
        have hs := opn_snoc pre r
        rw [if_neg b] at hs
        by_cases c : r = 8297
        · rw [if_pos c] at e hs
          rw [dT c]
          by_cases d : opn pre = 0
          · right
            rw [if_pos d] at e
            rw [dT d]
            exact ⟨_, rfl, .inl ⟨rfl, by rw [← h]; exact e⟩⟩
          · left
            rw [if_neg d] at e
            rw [dF d, w64 (n := opn pre - 1) (by omega) (by omega), hs]
            exact ⟨rfl, nxt _ e hs (by omega) (by omega)⟩
        · left
          rw [if_neg c] at e hs
          rw [dF c, hs]
          exact ⟨rfl, nxt _ e hs (by omega) (by omega)⟩
  · refine ⟨.inl (opn l), by simp only []; rw [lt_end]; rfl, .inr ⟨_, rfl, ?_⟩⟩
    rw [hi.1 [] (by simp)]; rfl
  · rintro o (⟨rfl, h⟩ | ⟨q, rfl, h⟩)
    · rw [h]; rfl
    · rw [h]; rfl

theorem rturns_eq {l : List Int} (hl : l.length ≤ 4294967296) (hp : i32P l) : exergueref02_Turns l = some (turns 0 l) := by
  unfold exergueref02_Turns
  refine bind_of (fun o => (o = .inr false ∧ turns 0 l = false) ∨ ∃ q, o = .inl q ∧ turns 0 l = decide (q = 0)) (loop_row l (fun pre => (opn pre, (pre.length : Int))) (TI l) _ rfl ⟨fun suf h => by rw [h]; rfl, Int.le_refl _, Int.le_refl _⟩ (fun pre r suf h hi => ?_) (fun hi => ?_) (by omega)) ?_
  · obtain ⟨i1, i2, i3⟩ := hi
    have hr := hp r (by rw [h]; simp)
    have hl' : (pre ++ r :: suf).length ≤ 4611686018427387904 := by rw [← h]; omega
    have hpl : pre.length < l.length := by rw [h]; simp
    have e := i1 (r :: suf) h
    simp only [turns] at e
    have hsnoc : (((pre ++ [r]).length : Nat) : Int) = (pre.length : Int) + 1 := by simp
    have nxt : ∀ q, turns 0 l = turns q suf → opn (pre ++ [r]) = q → 0 ≤ q → q ≤ (pre.length : Int) + 1 → TI (pre ++ r :: suf) (pre ++ [r]) := fun q h1 h2 h3 h4 => by
     rw [← h]
     exact ⟨fun s hs => by
      rw [h2]
      have : suf = s := by
        have h5 := h.symm.trans hs
        simpa using h5
      rw [← this]; exact h1, by rw [h2]; exact h3, by rw [h2, hsnoc]; exact h4⟩
    simp only [ge_iff_le]
    rw [h, lt_mid, inR_mid, nth_mid, w_mid hl', w64 (n := r) (by omega) (by omega)]
    by_cases a : 8234 ≤ r ∧ r ≤ 8238
    · right
      rw [if_pos a] at e
      rw [dT a.1, dT a.2]
      exact ⟨_, rfl, .inl ⟨rfl, by rw [← h]; exact e⟩⟩
    · rw [if_neg a] at e
      have a' : (bif decide (8234 ≤ r) then some (decide (r ≤ 8238)) else some false) = some false := by
        by_cases q : 8234 ≤ r
        · rw [dT q, dF (fun z => a ⟨q, z⟩)]; rfl
        · rw [dF q]; rfl
      rw [a']
      by_cases b : 8294 ≤ r ∧ r ≤ 8296
      · left
        rw [if_pos b] at e
        have hs := opn_snoc pre r
        rw [if_pos b] at hs
        rw [dT b.1, dT b.2, w64 (n := opn pre + 1) (by omega) (by omega), hs, dF (show ¬ r = 8297 by omega)]
        exact ⟨rfl, nxt _ e hs (by omega) (by omega)⟩
      · rw [if_neg b] at e
        have b' : (bif decide (8294 ≤ r) then some (decide (r ≤ 8296)) else some false) = some false := by
          by_cases q : 8294 ≤ r
          · rw [dT q, dF (fun z => b ⟨q, z⟩)]; rfl
          · rw [dF q]; rfl
        rw [b']
        have hs := opn_snoc pre r
        rw [if_neg b] at hs
        by_cases c : r = 8297
        · rw [if_pos c] at e hs
          rw [dT c]
          by_cases d : opn pre = 0
          · right
            rw [if_pos d] at e
            rw [show opn pre = 0 from d]
            exact ⟨_, rfl, .inl ⟨rfl, by rw [← h]; exact e⟩⟩
          · left
            rw [if_neg d] at e
            simp only [Option.bind_some, cond_false, joinX, cond_true]
            rw [dF d, w64 (n := opn pre - 1) (by omega) (by omega), hs]
            exact ⟨rfl, nxt _ e hs (by omega) (by omega)⟩
        · left
          rw [if_neg c] at e hs
          rw [dF c, hs]
          exact ⟨rfl, nxt _ e hs (by omega) (by omega)⟩
  · refine ⟨.inl (opn l), by simp only []; rw [lt_end]; rfl, .inr ⟨_, rfl, ?_⟩⟩
    rw [hi.1 [] (by simp)]; rfl
  · rintro o (⟨rfl, h⟩ | ⟨q, rfl, h⟩)
    · rw [h]; rfl
    · rw [h]; rfl

theorem turns_append : ∀ (a b : List Int) (o : Int), turns o a = true → turns o (a ++ b) = turns 0 b
  | [], b, o, h => by simp [turns] at h; subst h; rfl
  | r :: a, b, o, h => by
    simp only [turns, List.cons_append] at h ⊢
    by_cases h1 : 8234 ≤ r ∧ r ≤ 8238
    · rw [if_pos h1] at h; cases h
    · rw [if_neg h1] at h ⊢
      by_cases h2 : 8294 ≤ r ∧ r ≤ 8296
      · rw [if_pos h2] at h ⊢
        exact turns_append a b _ h
      · rw [if_neg h2] at h ⊢
        by_cases h3 : r = 8297
        · rw [if_pos h3] at h ⊢
          by_cases h4 : o = 0
          · rw [if_pos h4] at h; cases h
          · rw [if_neg h4] at h ⊢
            exact turns_append a b _ h
        · rw [if_neg h3] at h ⊢
          exact turns_append a b _ h

theorem turns_wrap : ∀ (a : List Int) (o : Int), 0 ≤ o → turns o a = true → turns (o + 1) (a ++ [8297]) = true
  | [], o, h0, h => by
    simp [turns] at h; subst h; decide
  | r :: a, o, h0, h => by
    simp only [turns, List.cons_append] at h ⊢
    split at h
    · cases h
    · rename_i h1
      rw [if_neg h1]
      split at h
      · rename_i h2
        rw [if_pos h2]
        exact turns_wrap a (o + 1) (by omega) h
      · rename_i h2
        rw [if_neg h2]
        split at h
        · rename_i h3
          rw [if_pos h3]
          split at h
          · cases h
          · rw [if_neg (by omega)]
            have := turns_wrap a (o - 1) (by omega) h
            rw [show o + 1 - 1 = o - 1 + 1 by omega]
            exact this
        · rename_i h3
          rw [if_neg h3]
          exact turns_wrap a o h0 h

/-- It has none that turn. -/
def still (l : List Int) : Prop := ∀ r ∈ l, ¬ (8234 ≤ r ∧ r ≤ 8238) ∧ ¬ (8294 ≤ r ∧ r ≤ 8297)
theorem still_append : ∀ (a b : List Int) (o : Int), still a → turns o (a ++ b) = turns o b
  | [], b, o, _ => rfl
  | r :: a, b, o, h => by
    obtain ⟨h1, h2⟩ := h r (List.mem_cons_self ..)
    simp only [List.cons_append, turns]
    rw [if_neg h1, if_neg (by omega), if_neg (by omega)]
    exact still_append a b o fun x hx => h x (List.mem_cons_of_mem _ hx)
theorem still_turns {l : List Int} (o : Int) (h : still l) : turns o l = decide (o = 0) := by
  have := still_append l [] o h
  rw [List.append_nil] at this
  rw [this]; rfl

theorem turning_two {r : Int} (h : (8234 ≤ r ∧ r ≤ 8238) ∨ (8294 ≤ r ∧ r ≤ 8297)) : rcls r = 2 := by
  have h1 : isR r = true := by unfold isR; rw [dT (by omega), dT (by omega), dT (by omega)]; rfl
  have h2 : ctrl r = false := by unfold ctrl; rw [dF (by omega), dF (show ¬ r ≤ 159 by omega)]; simp
  have h3 : turning r = true := by
    unfold turning
    rcases h with h | h
    · rw [dT h.1, dT h.2]; simp
    · rw [dT h.1, dT h.2]; simp
  unfold rcls
  rw [h1, h2, h3]; rfl

end Go.Proofs.YtkfgpandjbohfaaDoor
