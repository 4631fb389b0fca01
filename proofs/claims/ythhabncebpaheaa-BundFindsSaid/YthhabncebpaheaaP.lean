/-
 What those functions come to, told by plain functions of lists and numbers. Conditions: as each theorem says.
-/
import Derived.Test.YthhabncebpaheaaGb
import Derived.Test.YthhabncebpaheaaSyZ
import Derived.Laws.BitsAllLaws
namespace Go.Proofs.Ythhabncebpaheaa
open Go Go.Sy Go.RowKit Go.ChangeShapes Go.WideShapes Go.ChangeAt
set_option linter.unusedVariables false
set_option linter.unusedSimpArgs false
set_option maxRecDepth 100000
set_option maxHeartbeats 4000000
abbrev sz (k : Nat) : Prop := k = 1 ∨ k = 2 ∨ k = 4
def beN (n k : Nat) : List Nat := (List.range k).map fun j => n / 2 ^ (8 * (k - 1 - j)) % 256
def valN (l : List Nat) : Nat := l.foldl (fun a x => a * 256 + x) 0
theorem valN_snoc (l : List Nat) (x : Nat) : valN (l ++ [x]) = valN l * 256 + x := by simp [valN]
theorem beN_len (n k : Nat) : (beN n k).length = k := by simp [beN]
theorem beN_bytes (n k : Nat) : bytesP (beN n k) := fun c hc => by
 unfold beN at hc
 obtain ⟨j, _, rfl⟩ := List.mem_map.1 hc
 omega
theorem beN1 (n : Nat) : beN n 1 = [n % 256] := by simp [beN, List.range, List.range.loop]
theorem beN2 (n : Nat) : beN n 2 = [n / 256 % 256, n % 256] := by simp [beN, List.range, List.range.loop]
theorem beN4 (n : Nat) : beN n 4 = [n / 16777216 % 256, n / 65536 % 256, n / 256 % 256, n % 256] := by simp [beN, List.range, List.range.loop]
theorem val_be {n k : Nat} (hk : sz k) (h : n < 256 ^ k) : valN (beN n k) = n := by
 rcases hk with rfl | rfl | rfl
 ·rw [beN1]; simp [valN]; omega
 ·rw [beN2]; simp [valN]; omega
 ·rw [beN4]; simp [valN]; omega
theorem valN_lt {l : List Nat} (hl : bytesP l) : valN l < 256 ^ l.length := by
 have key : ∀ (k : Nat) (l : List Nat), l.length = k → bytesP l → valN l < 256 ^ k := by
  intro k
  induction k with
  | zero => intro l h _; rw [List.eq_nil_of_length_eq_zero h]; simp [valN]
  | succ k ih =>
   intro l h hb
   rcases List.eq_nil_or_concat l with h0 | ⟨p, c, h0⟩
   ·subst h0; simp at h
   ·rw [List.concat_eq_append] at h0
    subst h0
    have h1 := ih p (by simp at h; omega) (bytes_left hb)
    have h2 := hb c (by simp)
    rw [valN_snoc, Nat.pow_succ]; omega
 exact key _ l rfl hl
theorem sz_pow {k : Nat} (hk : sz k) : 256 ^ k ≤ 4294967296 := by rcases hk with rfl | rfl | rfl <;> decide
theorem sz_le {k : Nat} (hk : sz k) : 1 ≤ k ∧ k ≤ 4 := by rcases hk with rfl | rfl | rfl <;> decide
theorem clone_eq {xs : List Int} (hl : xs.length ≤ 4294967296) : slices_Clone xs = some xs := by
 unfold slices_Clone; exact clone_id hl
theorem shift_eq {k i : Nat} (hk : k ≤ 4) (hi : i < k) : IntKind.wrap .i64 (8 * (IntKind.wrap .i64 ((IntKind.wrap .i64 ((k : Int) - 1)) - (i : Int)))) = ((8 * (k - 1 - i) : Nat) : Int) := by
 rw [w64 (n := (k : Int) - 1) (by omega) (by omega), w64 (n := (k : Int) - 1 - i) (by omega) (by omega), w64 (by omega) (by omega)]; omega
theorem fdiv_pow (n s m : Nat) (h : s ≤ m) : Int.fdiv (n : Int) (2 ^ (min ((s : Nat) : Int).toNat m)) = ((n / 2 ^ s : Nat) : Int) := by
 rw [Int.toNat_natCast, Nat.min_eq_left h, Int.fdiv_eq_ediv_of_nonneg _ (by exact_mod_cast Nat.zero_le _)]
 push_cast; rfl
theorem lay_eq {l : List Nat} {n k : Nat} (hk : k ≤ 4) (hl : l.length ≤ 4294967200) : pack_lay (up l) (n : Int) (k : Int) = some (up (l ++ beN n k)) := by
 unfold pack_lay pack_each_s0
 refine bind_of (fun o => o = up (l ++ beN n k)) (loop_count k (fun i => ((i : Int), up (l ++ (List.range i).map fun j => n / 2 ^ (8 * (k - 1 - j)) % 256))) (fun _ => True) _ (by simp) trivial (fun i hi _ => .inl ⟨?_, trivial⟩) (fun _ => ⟨_, by simp only; rw [dF (by omega)]; rfl, rfl⟩) (by omega)) (fun o h => by rw [h])
 simp only
 rw [dT (by omega), shift_eq hk hi]
 unfold pack_lay_1_s0
 have h8 : 8 * (k - 1 - i) ≤ 32 := by omega
 rw [fdiv_pow n _ 32 h8, u8m, room_of (by simp [up_len]; omega), w64 (n := (i : Int) + 1) (by omega) (by omega)]
 have hs : sh ((8 * (k - 1 - i) : Nat) : Int) = true := by simp [sh]; omega
 rw [hs, List.range_succ, List.map_append]
 simp [up]
def putV (l : List Nat) (n k : Nat) : List Nat × Int := if sz k ∧ n < 256 ^ k then (l ++ beN n k, 0) else (l, 1)
theorem sized_eq (k : Nat) : pack_sized (k : Int) = some (decide (sz k)) := by
 unfold pack_sized
 by_cases h1 : k = 1
 ·subst h1; rfl
 ·by_cases h2 : k = 2
  ·subst h2; rfl
  ·have e1 : ¬ (k : Int) = 1 := by omega
   have e2 : ¬ (k : Int) = 2 := by omega
   rw [dF e1, dF e2]
   by_cases h4 : k = 4
   ·subst h4; rfl
   ·rw [dF (show ¬ (k : Int) = 4 by omega), dF (by omega)]; rfl
theorem sized_neg {k : Int} (h : k < 0) : pack_sized k = some false := by
 unfold pack_sized
 rw [dF (show ¬ k = 1 by omega), dF (show ¬ k = 2 by omega), dF (show ¬ k = 4 by omega)]; rfl
theorem pow256 (k : Nat) : 256 ^ k = 2 ^ (8 * k) := by rw [Nat.pow_mul]
theorem put_eq {l : List Nat} {n k : Nat} (hn : n < 4294967296) (hl : l.length ≤ 4294967200) : pack_Put (up l) (n : Int) (k : Int) = some (up (putV l n k).1, (putV l n k).2) := by
 unfold pack_Put putV
 rw [clone_eq (by rw [up_len]; omega), sized_eq]
 simp only [Option.bind_some]
 by_cases hk : sz k
 ·have hk4 := sz_le hk
  rw [dT hk, w64 (by omega) (by omega), wu64 (by omega) (by omega)]
  have e8 : (8 : Int) * (k : Int) = ((8 * k : Nat) : Int) := by omega
  rw [e8, fdiv_pow n (8 * k) 64 (by omega)]
  have hs : sh ((8 * k : Nat) : Int) = true := by simp [sh]; omega
  rw [hs]
  simp only [Bool.not_true, cond_false, cond_true]
  by_cases hf : n < 256 ^ k
  ·have : n / 2 ^ (8 * k) = 0 := Nat.div_eq_of_lt (by rw [← pow256]; exact hf)
   rw [this, if_pos ⟨hk, hf⟩, dF (by simp)]
   simp only [Option.bind_some, cond_false, joinX]
   rw [lay_eq (by omega) hl]; rfl
  ·have : n / 2 ^ (8 * k) ≠ 0 := by
    intro h0
    have h1 := (Nat.div_eq_zero_iff).1 h0
    rw [← pow256] at h1
    rcases h1 with h1 | h1
    ·exact absurd h1 (by have := Nat.pow_pos (n := k) (show 0 < 256 by decide); omega)
    ·exact hf h1
   rw [if_neg (fun h => hf h.2), dT (by omega)]; rfl
 ·rw [dF hk, if_neg (fun h => hk h.1)]; rfl
def takeV (l : List Nat) (i k : Int) : Int × Int × Int :=
 if ¬ sz k.toNat ∨ k < 0 ∨ i < 0 then (0, 0, 1) else if i + k > l.length then (0, 0, 2) else ((valN ((l.drop i.toNat).take k.toNat) : Nat), i + k, 0)
theorem or_step {v b s : Nat} (hb : b < 256) (h : v * 256 + b < 2 ^ 32) (hs : 2 ^ s * (v * 256 + b) < 2 ^ 32) : (2 ^ (s + 8) * v) ||| (b * 2 ^ s) = 2 ^ s * (v * 256 + b) := by
 have h1 : b * 2 ^ s < 2 ^ (s + 8) := by
  rw [Nat.pow_add]
  have : 2 ^ s * b < 2 ^ s * 256 := Nat.mul_lt_mul_of_pos_left hb (Nat.pow_pos (by decide))
  rw [Nat.mul_comm b]; simpa using this
 rw [← Nat.two_pow_add_eq_or_of_lt h1]
 rw [Nat.pow_add, Nat.mul_add, Nat.mul_comm b, Nat.mul_assoc]
 congr 2
 omega
theorem take_seg {P seg S : List Nat} (hb : bytesP (P ++ seg ++ S)) (hk : sz seg.length) (hl : P.length + seg.length + S.length ≤ 140737488355328) :
  pack_each_s1 (seg.length : Int) 0 (up (P ++ seg ++ S)) (P.length : Int) = some ((valN seg : Nat) : Int) := by
 have hk4 := sz_le hk
 have hsb : bytesP seg := bytes_right (bytes_left hb)
 have hlt := valN_lt hsb
 have hp := sz_pow hk
 unfold pack_each_s1
 rw [loop_fold seg (fun pre => ((pre.length : Int), ((2 ^ (8 * (seg.length - pre.length)) * valN pre : Nat) : Int))) ((valN seg : Nat) : Int)]
 ·simp [valN]
 ·intro pre x suf h
  have hx : x < 256 := hsb x (by rw [h]; simp)
  have hpl : pre.length < seg.length := by rw [h]; simp
  have hpre : bytesP (pre ++ [x]) := fun y hy => hsb y (by rw [h]; simp at hy ⊢; rcases hy with hy | hy <;> simp [hy])
  have hv := valN_lt hpre
  rw [valN_snoc] at hv
  have hpl2 : (pre ++ [x]).length = pre.length + 1 := by simp
  rw [hpl2] at hv
  have hu : up (P ++ seg ++ S) = up (P ++ pre) ++ (x : Int) :: up (suf ++ S) := by rw [h]; simp [up]
  have hn : nth (up (P ++ seg ++ S)) ((P.length : Int) + pre.length) = (x : Int) := by
   rw [hu]
   have := nth_mid (pre := up (P ++ pre)) (x := (x : Int)) (suf := up (suf ++ S))
   rw [up_len, List.length_append] at this
   simpa using this
  have hR : inR ((P.length : Int) + pre.length) (up (P ++ seg ++ S)).length = true := inR_int (by omega) (by rw [up_len]; simp; omega)
  simp only
  unfold pack_Take_1_s0
  rw [dT (by omega), shift_eq (by omega) hpl, w64 (n := (P.length : Int) + pre.length) (by omega) (by omega)]
  have hs : sh ((8 * (seg.length - 1 - pre.length) : Nat) : Int) = true := by simp [sh]; omega
  rw [hR, hs, hn, wu32 (n := (x : Int)) (by omega) (by omega)]
  generalize hsdef : 8 * (seg.length - 1 - pre.length) = s
  have hs8 : 8 * (seg.length - pre.length) = s + 8 := by omega
  have hs0 : 8 * (seg.length - (pre ++ [x]).length) = s := by rw [hpl2]; omega
  have hs24 : s ≤ 24 := by omega
  have hbig : 2 ^ s * (valN pre * 256 + x) < 2 ^ 32 := by
   have e1 : 256 ^ (pre.length + 1) * 2 ^ s = 256 ^ seg.length := by
    rw [pow256, pow256, ← Nat.pow_add]; congr 1; omega
   have : 2 ^ s * (valN pre * 256 + x) < 2 ^ s * 256 ^ (pre.length + 1) := Nat.mul_lt_mul_of_pos_left hv (Nat.pow_pos (by decide))
   rw [Nat.mul_comm (2 ^ s) (256 ^ (pre.length + 1)), e1] at this
   omega
  have hsmall : valN pre * 256 + x < 2 ^ 32 := Nat.lt_of_le_of_lt (Nat.le_mul_of_pos_left _ (Nat.pow_pos (by decide))) hbig
  have ho := or_step hx hsmall hbig
  have hxs : x * 2 ^ s < 4294967296 := by
   have : x * 2 ^ s ≤ 2 ^ s * (valN pre * 256 + x) := by rw [Nat.mul_comm x]; exact Nat.mul_le_mul_left _ (by omega)
   omega
  have hvs : 2 ^ (s + 8) * valN pre < 4294967296 := by
   have : 2 ^ (s + 8) * valN pre ≤ 2 ^ s * (valN pre * 256 + x) := by
    rw [Nat.pow_add, Nat.mul_assoc]; exact Nat.mul_le_mul_left _ (by omega)
   omega
  have e2 : (x : Int) * (2 ^ (min ((s : Nat) : Int).toNat 32)) = ((x * 2 ^ s : Nat) : Int) := by
   rw [Int.toNat_natCast, Nat.min_eq_left (by omega)]; push_cast; rfl
  rw [hs8, hs0, e2, wu32 (by omega) (by omega), u32_or_nat _ _ hvs hxs, ho, w64 (n := (pre.length : Int) + 1) (by omega) (by omega), valN_snoc, hpl2]
  simp
 ·simp only [Nat.sub_self, Nat.mul_zero, Nat.pow_zero, Nat.one_mul]; rw [dF (by omega)]; rfl
 ·omega
theorem parts {l : List Nat} {i k : Nat} (h : i + k ≤ l.length) : l = l.take i ++ (l.drop i).take k ++ l.drop (i + k) ∧ (l.take i).length = i ∧ ((l.drop i).take k).length = k := by
 refine ⟨?_, by simp; omega, by simp; omega⟩
 rw [List.append_assoc, ← List.drop_drop, List.take_append_drop, List.take_append_drop]
theorem take_eq {l : List Nat} {i k : Int} (hb : bytesP l) (hl : l.length ≤ 140737488355328) (hi : -9223372036854775808 ≤ i ∧ i < 9223372036854775808) (hk : -9223372036854775808 ≤ k ∧ k < 9223372036854775808) :
  pack_Take (up l) i k = some (takeV l i k) := by
 unfold pack_Take takeV
 by_cases hk0 : k < 0
 ·rw [sized_neg hk0, if_pos (.inr (.inl hk0))]; rfl
 ·obtain ⟨k, rfl⟩ := Int.eq_ofNat_of_zero_le (show 0 ≤ k by omega)
  rw [sized_eq, Int.toNat_natCast]
  simp only [Option.bind_some]
  by_cases hs : sz k
  ·have hk4 := sz_le hs
   rw [dT hs]
   simp only [Bool.not_true, cond_false]
   by_cases hi0 : i < 0
   ·rw [dT hi0, if_pos (.inr (.inr hi0))]; rfl
   ·rw [dF hi0, if_neg (by rintro (g | g | g); exact g hs; exact hk0 g; exact hi0 g)]
    simp only [Option.bind_some, cond_false, joinX]
    rw [up_len, w64 (n := (l.length : Int) - k) (by omega) (by omega)]
    by_cases hg : i + k > l.length
    ·rw [dT (by omega), if_pos hg]; rfl
    ·rw [dF (by omega), if_neg hg]
     simp only [cond_false]
     obtain ⟨i, rfl⟩ := Int.eq_ofNat_of_zero_le (show 0 ≤ i by omega)
     obtain ⟨p1, p2, p3⟩ := parts (l := l) (i := i) (k := k) (by omega)
     have ht := take_seg (P := l.take i) (seg := (l.drop i).take k) (S := l.drop (i + k)) (by rw [← p1]; exact hb) (by rw [p3]; exact hs) (by rw [p2, p3, List.length_drop]; omega)
     rw [p2, p3, ← p1] at ht
     rw [ht]
     simp only [Option.bind_some]
     rw [w64 (by omega) (by omega), Int.toNat_natCast]
  ·rw [dF hs, if_pos (.inl hs)]; rfl
abbrev Tx := List UInt8
theorem bne_dec {a b : Tx} : (a != b) = decide (¬ a = b) := by by_cases h : a = b <;> simp [h]
def posOf : List Tx → Tx → Option Nat
 | [], _ => none
 | x :: r, t => if x = t then some 0 else (posOf r t).map (· + 1)
theorem posOf_none {l : List Tx} {t : Tx} : posOf l t = none ↔ ¬ t ∈ l := by
 induction l with
 | nil => simp [posOf]
 | cons x r ih =>
  unfold posOf
  by_cases h : x = t
  ·simp [h]
  ·rw [if_neg h, Option.map_eq_none_iff, ih]
   simp [Ne.symm h]
theorem posOf_lt {l : List Tx} {t : Tx} {i : Nat} (h : posOf l t = some i) : i < l.length ∧ l[i]? = some t := by
 induction l generalizing i with
 | nil => cases h
 | cons x r ih =>
  unfold posOf at h
  by_cases hx : x = t
  ·rw [if_pos hx] at h; cases h; simp [hx]
  ·rw [if_neg hx] at h
   obtain ⟨j, hj, rfl⟩ := Option.map_eq_some_iff.1 h
   have := ih hj
   simp; exact this
def gst (s : List Tx × List Nat) (t : Tx) : List Tx × List Nat := match posOf s.1 t with
 | some i => (s.1, s.2 ++ [i])
 | none => (s.1 ++ [t], s.2 ++ [s.1.length])
def gat (l : List Tx) : List Tx × List Nat := l.foldl gst ([], [])
theorem gat_snoc (l : List Tx) (t : Tx) : gat (l ++ [t]) = gst (gat l) t := by simp [gat]
theorem snoc_ind {P : List Tx → Prop} (h0 : P []) (hs : ∀ l t, P l → P (l ++ [t])) : ∀ l, P l := by
 have key : ∀ (n : Nat) (l : List Tx), l.length = n → P l := by
  intro n
  induction n with
  | zero => intro l h; rw [List.eq_nil_of_length_eq_zero h]; exact h0
  | succ n ih =>
   intro l h
   rcases List.eq_nil_or_concat l with h1 | ⟨p, c, h1⟩
   ·subst h1; simp at h
   ·rw [List.concat_eq_append] at h1
    subst h1
    exact hs p c (ih p (by simp at h; omega))
 exact fun l => key _ l rfl
theorem gat_len : ∀ l, (gat l).1.length ≤ l.length ∧ (gat l).2.length = l.length := by
 refine snoc_ind (by simp [gat]) (fun l t ih => ?_)
 rw [gat_snoc]
 unfold gst
 split <;> simp <;> omega
theorem gat_mem : ∀ l t, t ∈ (gat l).1 ↔ t ∈ l := by
 refine snoc_ind (by simp [gat]) (fun l t ih u => ?_)
 rw [gat_snoc]
 unfold gst
 split
 ·rename_i i hi
  have hm : t ∈ (gat l).1 := by
   apply Decidable.byContradiction
   intro hn
   rw [posOf_none.2 hn] at hi; cases hi
  simp only [ih u, List.mem_append, List.mem_singleton]
  constructor
  ·exact fun h => .inl h
  ·rintro (h | rfl)
   ·exact h
   ·exact (ih u).1 hm
 ·simp [ih u]
theorem gat_nodup : ∀ l, (gat l).1.Nodup := by
 refine snoc_ind (by simp [gat]) (fun l t ih => ?_)
 rw [gat_snoc]
 unfold gst
 split
 ·exact ih
 ·rename_i hn
  rw [posOf_none] at hn
  simp only [List.nodup_append, ih, true_and]
  refine ⟨by simp, fun a ha b hb => ?_⟩
  simp at hb
  subst hb
  intro e; subst e; exact hn ha
theorem gat_full : ∀ l, (gat l).1.length = l.length ↔ l.Nodup := by
 refine snoc_ind (by simp [gat]) (fun l t ih => ?_)
 rw [gat_snoc]
 have hle := (gat_len l).1
 have hnd : (l ++ [t]).Nodup ↔ l.Nodup ∧ ¬ t ∈ l := by
  simp only [List.nodup_append]
  constructor
  ·rintro ⟨a, _, c⟩
   exact ⟨a, fun h => c t h t (by simp) rfl⟩
  ·rintro ⟨a, b⟩
   refine ⟨a, by simp, fun x hx y hy => ?_⟩
   simp at hy
   subst hy
   intro e; subst e; exact b hx
 rw [hnd]
 unfold gst
 split
 ·rename_i i hi
  have hm : t ∈ l := by
   rw [← gat_mem]
   apply Decidable.byContradiction
   intro hn
   rw [posOf_none.2 hn] at hi; cases hi
  simp [hm]; omega
 ·rename_i hn
  rw [posOf_none, gat_mem] at hn
  simp [hn, ih]
theorem gat_back : ∀ l i, i < l.length → ∃ j, (gat l).2[i]? = some j ∧ (gat l).1[j]? = l[i]? := by
 refine snoc_ind (by simp) (fun l t ih i hi => ?_)
 rw [gat_snoc]
 have hl2 := (gat_len l).2
 unfold gst
 by_cases hil : i < l.length
 ·obtain ⟨j, h1, h2⟩ := ih i hil
  have hj : j < (gat l).1.length := by
   rw [List.getElem?_eq_getElem hil] at h2
   exact (List.getElem?_eq_some_iff.1 h2).1
  split
  ·exact ⟨j, by simp only; rw [List.getElem?_append_left (by omega)]; exact h1, by rw [List.getElem?_append_left hil]; exact h2⟩
  ·exact ⟨j, by simp only; rw [List.getElem?_append_left (by omega)]; exact h1, by simp only; rw [List.getElem?_append_left hj, List.getElem?_append_left hil]; exact h2⟩
 ·have hie : i = l.length := by simp at hi; omega
  subst hie
  split
  ·rename_i j hj
   exact ⟨j, by simp only; rw [List.getElem?_append_right (by omega), hl2]; simp, by simp only; rw [(posOf_lt hj).2]; simp⟩
  ·exact ⟨(gat l).1.length, by simp only; rw [List.getElem?_append_right (by omega), hl2]; simp, by simp⟩
def mkF : Nat → List Tx → List (St107 × Int)
 | _, [] => []
 | k, t :: r => (⟨t⟩, (k : Int)) :: mkF (k + 1) r
theorem mkF_snoc (l : List Tx) (t : Tx) : ∀ k, mkF k (l ++ [t]) = mkF k l ++ [(⟨t⟩, ((k + l.length : Nat) : Int))] := by
 induction l with
 | nil => intro k; rfl
 | cons x r ih => intro k; simp [mkF, ih]; omega
theorem mget_mkF (l : List Tx) (t : Tx) : ∀ k, mget (fun a b : St107 => ((a.text_ == b.text_) && true)) (mkF k l) ⟨t⟩ = (posOf l t).map fun i => ((k + i : Nat) : Int) := by
 induction l with
 | nil => intro k; rfl
 | cons x r ih =>
  intro k
  unfold mkF mget posOf
  by_cases h : x = t
  ·subst h; simp
  ·have h' : ¬ t = x := fun e => h e.symm
   rw [ih (k + 1), if_neg h]
   have hb : ((t == x) && true) = false := by rw [beq_eq_false_iff_ne.2 h']; rfl
   simp only [hb, cond_false]
   cases posOf r t with
   | none => rfl
   | some j => simp only [Option.map_some, Option.some.injEq]; omega
theorem gather_eq {l : List Tx} (hl : l.length ≤ 4294967290) : pack_Gather l = some ((gat l).1, up (gat l).2) := by
 unfold pack_Gather
 refine bind_of (fun o => o = ((gat l).1, up (gat l).2)) ⟨_, loop_fold l (fun pre => ((pre.length : Int), (gat pre).1, up (gat pre).2, mkF 0 (gat pre).1)) _ rfl (fun pre x suf h => ?_) (by simp only; rw [lt_end]; rfl) (by omega), rfl⟩ (fun o h => by rw [h])
 have hl' : (pre ++ x :: suf).length ≤ 4611686018427387904 := by rw [← h]; omega
 have hpl : pre.length < l.length := by rw [h]; simp
 have hg := gat_len pre
 simp only
 rw [h, lt_mid, inR_mid, nth_mid, w_mid hl', mget_mkF, gat_snoc]
 unfold gst
 cases hp : posOf (gat pre).1 x with
 | some i =>
  simp only [Option.map_some, Option.isSome_some, Bool.not_true, cond_false, cond_true, Option.bind_some, Option.getD_some, Nat.zero_add]
  rw [room_of (by rw [up_len]; simp; omega), up_append]; rfl
 | none =>
  simp only [Option.map_none, Option.isSome_none, Option.isNone_none, Bool.not_false, cond_true, Option.bind_some]
  rw [room_of (by simp; omega), mkF_snoc, Nat.zero_add]
  simp only [cond_true, Option.bind_some]
  rw [room_of (by rw [up_len]; simp; omega), up_append]; rfl
def okR (pool : List Tx) (r : Int) : Bool := decide (0 ≤ r) && decide (r < pool.length)
def sprV (pool : List Tx) (refs : List Int) : List Tx × Int := if refs.all (okR pool) = true then (refs.map fun r => nth pool r, 0) else ([], 7)
theorem spread_eq {pool : List Tx} {refs : List Int} (hl : refs.length ≤ 4294967290) : pack_Spread pool refs = some (sprV pool refs) := by
 unfold pack_Spread
 rw [loop_all (okR pool) refs (fun pre => ((pre.length : Int), pre.map fun r => nth pool r)) (.inl (refs.map fun r => nth pool r)) (.inr ([], 7))]
 ·unfold sprV
  cases refs.all (okR pool) <;> rfl
 ·rfl
 ·intro pre x suf h
  have hl' : (pre ++ x :: suf).length ≤ 4611686018427387904 := by rw [← h]; omega
  have hpl : pre.length < refs.length := by rw [h]; simp
  simp only
  rw [h, lt_mid, inR_mid, nth_mid, w_mid hl', room_of (by simp; omega)]
  unfold okR
  by_cases h1 : 0 ≤ x
  ·by_cases h2 : x < pool.length
   ·rw [inR_int h1 h2, dF (show ¬ x < 0 by omega), dF (show ¬ x ≥ pool.length by omega), dT h1, dT h2]; simp [joinX]
   ·rw [dF (show ¬ x < 0 by omega), dT (show x ≥ pool.length by omega), dF h2]; simp [joinX]
  ·rw [dT (show x < 0 by omega), dF h1]; simp [joinX]
 ·simp only; rw [lt_end]; rfl
 ·omega
abbrev poolP (l : List Tx) : Prop := l.length ≤ 500 ∧ (∀ t ∈ l, t.length ≤ 400) ∧ l.Nodup
theorem pool_eq {l : List Tx} (hl : l.length ≤ 4294967290) : pack_isPool l = some (decide (poolP l)) := by
 unfold pack_isPool
 by_cases h : l.length ≤ 500
 ·rw [dF (show ¬ (l.length : Int) > 500 by omega), all_loop (fun t : Tx => decide ((t.length : Int) > 400)) l (by omega)]
  simp only [cond_false]
  by_cases ha : ∀ t ∈ l, t.length ≤ 400
  ·have e : l.all (fun c => !decide ((c.length : Int) > 400)) = true := by
    rw [List.all_eq_true]
    intro t ht
    have := ha t ht
    simp; omega
   rw [if_pos e]
   simp only [Option.bind_some, joinX]
   rw [gather_eq (by omega)]
   simp only [Option.bind_some]
   congr 1
   have := gat_full l
   by_cases hn : l.Nodup
   ·rw [dT (by have := this.2 hn; omega), dT ⟨h, ha, hn⟩]
   ·rw [dF (fun e => hn (this.1 (by omega))), dF (fun e => hn e.2.2)]
  ·have e : ¬ l.all (fun c => !decide ((c.length : Int) > 400)) = true := by
    intro hx
    rw [List.all_eq_true] at hx
    exact ha fun t ht => by have := hx t ht; simp at this; omega
   rw [if_neg e, dF (fun q => ha q.2.1)]; rfl
 ·rw [dT (show (l.length : Int) > 500 by omega), dF (fun q => h q.1)]; rfl
def pbytes (l : List Tx) : List Nat := l.flatMap fun t => beN t.length 2 ++ t.map UInt8.toNat
theorem pbytes_snoc (l : List Tx) (t : Tx) : pbytes (l ++ [t]) = pbytes l ++ (beN t.length 2 ++ t.map UInt8.toNat) := by simp [pbytes]
theorem pbytes_len {l : List Tx} (h : ∀ t ∈ l, t.length ≤ 400) : (pbytes l).length ≤ 402 * l.length := by
 induction l with
 | nil => simp [pbytes]
 | cons t l ih =>
  have h1 := h t (by simp)
  have h2 := ih (fun x hx => h x (by simp [hx]))
  simp only [pbytes, List.flatMap_cons, List.length_append, beN_len, List.length_map, List.length_cons] at h2 ⊢
  omega
theorem pbytes_bytes (l : List Tx) : bytesP (pbytes l) := fun c hc => by
 unfold pbytes at hc
 obtain ⟨t, _, ht⟩ := List.mem_flatMap.1 hc
 rcases List.mem_append.1 ht with ht | ht
 ·exact beN_bytes _ _ c ht
 ·exact text_bytesP t c ht
def putPV (b : List Nat) (l : List Tx) : List Nat × Int := if poolP l then (b ++ (beN l.length 2 ++ pbytes l), 0) else (b, 1)
theorem lay2_eq {l : List Nat} {n : Nat} (hl : l.length ≤ 4294967200) : pack_lay (up l) (n : Int) 2 = some (up (l ++ beN n 2)) := lay_eq (k := 2) (by omega) hl
theorem putp_eq {b : List Nat} {l : List Tx} (hb : b.length ≤ 4000000000) (hl : l.length ≤ 4294967290) : pack_PutPool (up b) l = some (up (putPV b l).1, (putPV b l).2) := by
 unfold pack_PutPool putPV
 rw [clone_eq (by rw [up_len]; omega), pool_eq hl]
 simp only [Option.bind_some]
 by_cases hp : poolP l
 ·rw [dT hp, if_pos hp]
  simp only [Bool.not_true, cond_false]
  rw [wu32 (n := (l.length : Int)) (by omega) (by omega), lay2_eq (by omega)]
  simp only [Option.bind_some]
  refine bind_of (fun o => o = up (b ++ (beN l.length 2 ++ pbytes l))) ⟨_, loop_fold l (fun pre => ((pre.length : Int), up (b ++ (beN l.length 2 ++ pbytes pre)))) _ (by simp [pbytes]) (fun pre x suf h => ?_) (by simp only; rw [lt_end]; rfl) (by omega), rfl⟩ (fun o h => by rw [h])
  have hl' : (pre ++ x :: suf).length ≤ 4611686018427387904 := by rw [← h]; omega
  have hx := hp.2.1 x (by rw [h]; simp)
  have hpre : ∀ t ∈ pre, t.length ≤ 400 := fun t ht => hp.2.1 t (by rw [h]; simp [ht])
  have hpb := pbytes_len hpre
  have hpl : pre.length < l.length := by rw [h]; simp
  have hbl : (b ++ (beN l.length 2 ++ pbytes pre)).length = b.length + (2 + (pbytes pre).length) := by simp [beN_len]
  have hlen : l.length ≤ 500 := hp.1
  generalize hL : beN l.length 2 = L at hbl
  simp only
  rw [h, lt_mid, inR_mid, nth_mid, w_mid hl', wu32 (n := (x.length : Int)) (by omega) (by omega), lay2_eq (by omega)]
  simp only [Option.bind_some, cond_true]
  rw [room_of (by rw [up_len, List.length_append, hbl, beN_len]; omega), bytes_of_text, ← up_append, pbytes_snoc]
  simp
 ·rw [dF hp, if_neg hp]; rfl
def tText (l : List Nat) (i : Nat) : Option (Tx × Nat) :=
 if i + 2 ≤ l.length then (if i + 2 + valN ((l.drop i).take 2) ≤ l.length then some (((l.drop (i + 2)).take (valN ((l.drop i).take 2))).map UInt8.ofNat, i + 2 + valN ((l.drop i).take 2)) else none) else none
theorem val2_lt {l : List Nat} (hb : bytesP l) (i : Nat) : valN ((l.drop i).take 2) < 65536 := by
 have h1 := valN_lt (bytes_take (bytes_drop hb i) 2)
 have h2 : ((l.drop i).take 2).length ≤ 2 := by rw [List.length_take]; omega
 have : 256 ^ ((l.drop i).take 2).length ≤ 256 ^ 2 := Nat.pow_le_pow_right (by decide) h2
 omega
theorem cut_text {l : List Nat} {i n : Nat} : cut (up l) (i : Int) ((i : Int) + (n : Int)) = up ((l.drop i).take n) := by
 have e : (i : Int) + (n : Int) = ((i + n : Nat) : Int) := by omega
 rw [e, cut_up, List.drop_take]
 congr 2; omega
theorem ttext_eq {l : List Nat} {i : Nat} (hb : bytesP l) (hl : l.length ≤ 140737488355328) (hi : i ≤ 140737488355328) : pack_takeText (up l) (i : Int) = some (match tText l i with
  | some (t, j) => (t, (j : Int), 0)
  | none => ([], 0, 2)) := by
 unfold pack_takeText
 rw [take_eq hb hl (by omega) (by omega)]
 have hv := val2_lt hb i
 unfold takeV tText
 rw [if_neg (by rintro (g | g | g) <;> first | exact g (by decide) | omega)]
 simp only [Option.bind_some, Int.toNat_natCast]
 have e2 : (2 : Int).toNat = 2 := rfl
 rw [e2]
 by_cases h1 : i + 2 ≤ l.length
 ·rw [if_neg (by omega), if_pos h1]
  simp only [not_true_eq_false, decide_false, cond_false]
  generalize hn : valN ((l.drop i).take 2) = n at hv
  rw [up_len, w64 (n := (n : Int)) (by omega) (by omega), w64 (n := (l.length : Int) - ((i : Int) + 2)) (by omega) (by omega), w64 (n := (i : Int) + 2 + n) (by omega) (by omega)]
  by_cases h2 : i + 2 + n ≤ l.length
  ·rw [dF (by omega), if_pos h2, inS_of (by omega) (by omega) (by omega)]
   simp only [cond_false, cond_true]
   have e : (i : Int) + 2 = ((i + 2 : Nat) : Int) := by omega
   rw [e, cut_text, text_of_bytes]
   simp
  ·rw [dT (by omega), if_neg h2]; rfl
 ·rw [if_pos (by omega), if_neg h1]; rfl
def tpi (l : List Nat) (i0 : Nat) : Nat → Option (List Tx × Nat)
 | 0 => some ([], i0)
 | m + 1 => match tpi l i0 m with
  | some (p, i) => match tText l i with
   | some (t, j) => some (p ++ [t], j)
   | none => none
  | none => none
theorem tpi_none {l : List Nat} {i0 m : Nat} (h : tpi l i0 m = none) : ∀ k, tpi l i0 (m + k) = none
 | 0 => h
 | k + 1 => by
  show tpi l i0 ((m + k) + 1) = none
  unfold tpi
  rw [tpi_none h k]
theorem tText_le {l : List Nat} {i j : Nat} {t : Tx} (h : tText l i = some (t, j)) : i + 2 ≤ j ∧ j ≤ l.length := by
 unfold tText at h
 split at h
 ·split at h
  ·cases h; omega
  ·cases h
 ·cases h
theorem tpi_facts {l : List Nat} {i0 : Nat} (h0 : i0 ≤ l.length) : ∀ (m : Nat) {p : List Tx} {i : Nat}, tpi l i0 m = some (p, i) → i ≤ l.length ∧ p.length = m ∧ i0 ≤ i
 | 0, p, i, h => by cases h; simp; exact h0
 | m + 1, p, i, h => by
  unfold tpi at h
  split at h
  ·rename_i p' i' h1
   split at h
   ·rename_i t j h2
    cases h
    have := tpi_facts h0 m h1
    have := tText_le h2
    simp; omega
   ·cases h
  ·cases h
def tpV (l : List Nat) (i : Int) : List Tx × Int × Int :=
 if i < 0 then ([], 0, 1) else if i + 2 > l.length then ([], 0, 2) else match tpi l (i.toNat + 2) (valN ((l.drop i.toNat).take 2)) with
  | none => ([], 0, 2)
  | some (p, j) => if poolP p then (p, (j : Int), 0) else ([], 0, 2)
theorem takep_eq {l : List Nat} {i : Int} (hb : bytesP l) (hl : l.length ≤ 140737488355328) (hi : -9223372036854775808 ≤ i ∧ i < 9223372036854775808) : pack_TakePool (up l) i = some (tpV l i) := by
 unfold pack_TakePool tpV
 rw [take_eq hb hl hi (by omega)]
 simp only [Option.bind_some]
 by_cases h0 : i < 0
 ·unfold takeV
  rw [if_pos (.inr (.inr h0)), if_pos h0]; rfl
 ·obtain ⟨i, rfl⟩ := Int.eq_ofNat_of_zero_le (show 0 ≤ i by omega)
  have hv := val2_lt hb i
  unfold takeV
  rw [if_neg (by rintro (g | g | g) <;> first | exact g (by decide) | omega), if_neg h0]
  simp only [Int.toNat_natCast]
  have e2 : (2 : Int).toNat = 2 := rfl
  rw [e2]
  by_cases h1 : (i : Int) + 2 > l.length
  ·rw [if_pos h1, if_pos h1]; rfl
  ·rw [if_neg h1, if_neg h1]
   simp only [not_true_eq_false, decide_false, cond_false]
   generalize hn : valN ((l.drop i).take 2) = n at hv
   rw [w64 (n := (n : Int)) (by omega) (by omega)]
   have hf := fun m {p} {j} => tpi_facts (l := l) (i0 := i + 2) (by omega) m (p := p) (i := j)
   refine bind_of (fun o => (∃ p j, o = .inl (((j : Nat) : Int), p) ∧ tpi l (i + 2) n = some (p, j)) ∨ (o = .inr ([], 0, 2) ∧ tpi l (i + 2) n = none))
    (loop_count n (fun m => match tpi l (i + 2) m with
     | some (p, j) => ((j : Int), (m : Int), p)
     | none => (0, 0, [])) (fun m => ∃ p j, tpi l (i + 2) m = some (p, j)) _ (by simp only [tpi]; rfl) ⟨_, _, rfl⟩ (fun m hm hI => ?_) (fun hI => ?_) (by omega)) ?_
   ·obtain ⟨p, j, hpj⟩ := hI
    obtain ⟨f1, f2, f3⟩ := hf m hpj
    have hs : tpi l (i + 2) (m + 1) = match tText l j with
     | some (t, q) => some (p ++ [t], q)
     | none => none := by
     show (match tpi l (i + 2) m with
      | some (p, i) => _
      | none => _) = _
     rw [hpj]
    rw [hpj]
    simp only
    rw [dT (by omega), ttext_eq hb hl (by omega)]
    cases ht : tText l j with
    | none =>
     right
     rw [ht] at hs
     refine ⟨.inr ([], 0, 2), rfl, .inr ⟨rfl, ?_⟩⟩
     have := tpi_none hs (n - (m + 1))
     rwa [show m + 1 + (n - (m + 1)) = n by omega] at this
    | some q =>
     obtain ⟨t, q⟩ := q
     left
     rw [ht] at hs
     rw [hs]
     simp only [cond_true, Option.bind_some]
     rw [room_of (by simp; omega), w64 (by omega) (by omega)]
     exact ⟨by simp, _, _, rfl⟩
   ·obtain ⟨p, j, hpj⟩ := hI
    rw [hpj]
    exact ⟨.inl ((j : Int), p), by simp only; rw [dF (by omega)]; rfl, .inl ⟨p, j, rfl, rfl⟩⟩
   ·rintro o (⟨p, j, rfl, hpj⟩ | ⟨rfl, hpj⟩)
    ·obtain ⟨f1, f2, f3⟩ := hf n hpj
     rw [hpj]
     simp only [joinX]
     rw [pool_eq (by omega)]
     simp only [Option.bind_some]
     by_cases hp : poolP p
     ·rw [dT hp, if_pos hp]; rfl
     ·rw [dF hp, if_neg hp]; rfl
    ·rw [hpj]; rfl
theorem text_forth {l : List Nat} (h : bytesP l) : (l.map UInt8.ofNat).map UInt8.toNat = l := by
 rw [List.map_map]
 have : ∀ x ∈ l, (UInt8.toNat ∘ UInt8.ofNat) x = x := fun x hx => by
  have := h x hx
  simp only [Function.comp_apply, UInt8.toNat_ofNat']
  omega
 rw [List.map_congr_left this]; simp
/-! Numbers of 32 bits, shifted and summed. -/
def half (n : Nat) : Nat := if n % 2 = 1 then (n / 2) ^^^ 3988292384 else n / 2
def half8 (n : Nat) : Nat := half (half (half (half (half (half (half (half n)))))))
def onN (s : Nat) (l : List Nat) : Nat := l.foldl (fun s c => half8 (s ^^^ c)) s
theorem x32 {a b : Nat} (ha : a < 4294967296) (hb : b < 4294967296) : a ^^^ b < 4294967296 := Nat.xor_lt_two_pow (n := 32) ha hb
theorem half_lt {n : Nat} (h : n < 4294967296) : half n < 4294967296 := by
 unfold half
 split
 ·exact x32 (by omega) (by omega)
 ·omega
theorem half8_lt {n : Nat} (h : n < 4294967296) : half8 n < 4294967296 := by
 unfold half8
 exact half_lt (half_lt (half_lt (half_lt (half_lt (half_lt (half_lt (half_lt h)))))))
theorem xor_div2 (a b : Nat) : (a ^^^ b) / 2 = a / 2 ^^^ b / 2 := Nat.xor_div_two
theorem xor_mod2 (a b : Nat) : (a ^^^ b) % 2 = (a + b) % 2 := by
 have h := Nat.xor_mod_two_eq_one (a := a) (b := b)
 by_cases h1 : a % 2 = 1 <;> by_cases h2 : b % 2 = 1 <;> simp only [h1, h2, not_true, not_false_eq_true, iff_true, iff_false, true_iff, false_iff, iff_self] at h <;> omega
theorem xor_zero_eq {a b : Nat} (h : a ^^^ b = 0) : a = b := by
 have h1 : a ^^^ b ^^^ b = 0 ^^^ b := by rw [h]
 rwa [Nat.xor_assoc, Nat.xor_self, Nat.xor_zero, Nat.zero_xor] at h1
theorem half_xor (a b : Nat) : half (a ^^^ b) = half a ^^^ half b := by
 unfold half
 rw [xor_div2]
 have hm := xor_mod2 a b
 by_cases h1 : a % 2 = 1 <;> by_cases h2 : b % 2 = 1
 ·rw [if_pos h1, if_pos h2, if_neg (by omega)]
  have : a / 2 ^^^ 3988292384 ^^^ (b / 2 ^^^ 3988292384) = (a / 2 ^^^ b / 2) ^^^ (3988292384 ^^^ 3988292384) := by ac_rfl
  rw [this, Nat.xor_self, Nat.xor_zero]
 ·rw [if_pos h1, if_neg h2, if_pos (by omega)]; ac_rfl
 ·rw [if_neg h1, if_pos h2, if_pos (by omega)]; ac_rfl
 ·rw [if_neg h1, if_neg h2, if_neg (by omega)]
theorem half8_xor (a b : Nat) : half8 (a ^^^ b) = half8 a ^^^ half8 b := by unfold half8; simp only [half_xor]
theorem half_zero {n : Nat} (hn : n < 4294967296) (h : half n = 0) : n = 0 := by
 unfold half at h
 split at h
 ·have : n / 2 = 3988292384 := xor_zero_eq h
  omega
 ·omega
theorem half8_zero {n : Nat} (hn : n < 4294967296) (h : half8 n = 0) : n = 0 := by
 unfold half8 at h
 have l1 := half_lt hn
 have l2 := half_lt l1
 have l3 := half_lt l2
 have l4 := half_lt l3
 have l5 := half_lt l4
 have l6 := half_lt l5
 have l7 := half_lt l6
 exact half_zero hn (half_zero l1 (half_zero l2 (half_zero l3 (half_zero l4 (half_zero l5 (half_zero l6 (half_zero l7 h)))))))
theorem onN_cons (s c : Nat) (l : List Nat) : onN s (c :: l) = onN (half8 (s ^^^ c)) l := rfl
theorem onN_append (s : Nat) (l m : List Nat) : onN s (l ++ m) = onN (onN s l) m := by unfold onN; rw [List.foldl_append]
theorem onN_lt {l : List Nat} : ∀ {s : Nat}, s < 4294967296 → bytesP l → onN s l < 4294967296 := by
 induction l with
 | nil => intro s hs _; exact hs
 | cons c l ih =>
  intro s hs hl
  rw [onN_cons]
  have := hl c (List.mem_cons_self ..)
  exact ih (half8_lt (x32 hs (by omega))) (fun x hx => hl x (List.mem_cons_of_mem _ hx))
theorem half8_inj {a b : Nat} (ha : a < 4294967296) (hb : b < 4294967296) (h : half8 a = half8 b) : a = b := by
 have h1 : half8 (a ^^^ b) = 0 := by rw [half8_xor, h, Nat.xor_self]
 exact xor_zero_eq (half8_zero (x32 ha hb) h1)
theorem onN_inj : ∀ {l : List Nat} {s t : Nat}, s < 4294967296 → t < 4294967296 → bytesP l → onN s l = onN t l → s = t := by
 intro l
 induction l with
 | nil => intro s t _ _ _ h; exact h
 | cons c l ih =>
  intro s t hs ht hl h
  have hc := hl c (List.mem_cons_self ..)
  have h1 : s ^^^ c < 4294967296 := x32 hs (by omega)
  have h2 : t ^^^ c < 4294967296 := x32 ht (by omega)
  have h3 := half8_inj h1 h2 (ih (half8_lt h1) (half8_lt h2) (fun x hx => hl x (List.mem_cons_of_mem _ hx)) h)
  have h4 : s ^^^ c ^^^ c = t ^^^ c ^^^ c := by rw [h3]
  rwa [Nat.xor_assoc, Nat.xor_self, Nat.xor_zero, Nat.xor_assoc, Nat.xor_self, Nat.xor_zero] at h4
def wordC (a b c d : Nat) : Nat := a + b * 256 + c * 65536 + d * 16777216
theorem half_shift {m : Nat} (h : m % 2 = 0) : half m = m / 2 := by unfold half; rw [if_neg (by omega)]
theorem half8_shift (v : Nat) : half8 (v * 256) = v := by
 have h : ∀ m, half (m * 2) = m := fun m => by rw [half_shift (by omega)]; omega
 have e : v * 256 = v * 2 * 2 * 2 * 2 * 2 * 2 * 2 * 2 := by omega
 unfold half8
 rw [e, h, h, h, h, h, h, h, h]
theorem xor_add {a v : Nat} (ha : a < 256) : a ^^^ (v * 256) = a + v * 256 := by
 have h := Nat.two_pow_add_eq_or_of_lt (i := 8) (b := a) ha v
 have h2 : v * 256 = 2 ^ 8 * v := by omega
 rw [h2, Nat.add_comm, h]
 apply Nat.eq_of_testBit_eq
 intro i
 rw [Nat.testBit_xor, Nat.testBit_or, Nat.testBit_two_pow_mul]
 by_cases hi : 8 ≤ i
 ·have : a.testBit i = false := Nat.testBit_lt_two_pow (Nat.lt_of_lt_of_le ha (Nat.pow_le_pow_right (n := 2) (by decide) hi))
  simp [this]
 ·simp [hi]
theorem on4 {s a b c d : Nat} (ha : a < 256) (hb : b < 256) (hc : c < 256) : onN s [a, b, c, d] = half8 (half8 (half8 (half8 (s ^^^ wordC a b c d)))) := by
 have w3 : wordC a b c d = a ^^^ ((b ^^^ ((c ^^^ (d * 256)) * 256)) * 256) := by
  rw [xor_add hc, xor_add hb, xor_add ha]; unfold wordC; omega
 rw [w3]
 show half8 (half8 (half8 (half8 (s ^^^ a) ^^^ b) ^^^ c) ^^^ d) = _
 have e1 : s ^^^ (a ^^^ ((b ^^^ ((c ^^^ (d * 256)) * 256)) * 256)) = (s ^^^ a) ^^^ ((b ^^^ ((c ^^^ (d * 256)) * 256)) * 256) := by ac_rfl
 rw [e1, half8_xor (s ^^^ a), half8_shift]
 have e2 : half8 (s ^^^ a) ^^^ (b ^^^ ((c ^^^ (d * 256)) * 256)) = (half8 (s ^^^ a) ^^^ b) ^^^ ((c ^^^ (d * 256)) * 256) := by ac_rfl
 rw [e2, half8_xor (half8 (s ^^^ a) ^^^ b), half8_shift]
 have e3 : half8 (half8 (s ^^^ a) ^^^ b) ^^^ (c ^^^ (d * 256)) = (half8 (half8 (s ^^^ a) ^^^ b) ^^^ c) ^^^ (d * 256) := by ac_rfl
 rw [e3, half8_xor (half8 (half8 (s ^^^ a) ^^^ b) ^^^ c), half8_shift]
theorem word_lt {a b c d : Nat} (ha : a < 256) (hb : b < 256) (hc : c < 256) (hd : d < 256) : wordC a b c d < 4294967296 := by unfold wordC; omega
theorem xor_keep {p a : Nat} (h : p ^^^ a = p) : a = 0 := by
 have : p ^^^ (p ^^^ a) = p ^^^ p := by rw [h]
 rwa [← Nat.xor_assoc, Nat.xor_self, Nat.zero_xor] at this
theorem word_inj {a b c d a' b' c' d' : Nat} (ha : a < 256) (hb : b < 256) (hc : c < 256) (ha' : a' < 256) (hb' : b' < 256) (hc' : c' < 256) (h : wordC a b c d = wordC a' b' c' d') :
  a = a' ∧ b = b' ∧ c = c' ∧ d = d' := by unfold wordC at h; omega
theorem x8 {a b : Nat} (ha : a < 256) (hb : b < 256) : a ^^^ b < 256 := Nat.xor_lt_two_pow (n := 8) ha hb
theorem h84_inj {a b : Nat} (ha : a < 4294967296) (hb : b < 4294967296) (h : half8 (half8 (half8 (half8 a))) = half8 (half8 (half8 (half8 b)))) : a = b :=
 half8_inj ha hb (half8_inj (half8_lt ha) (half8_lt hb) (half8_inj (half8_lt (half8_lt ha)) (half8_lt (half8_lt hb)) (half8_inj (half8_lt (half8_lt (half8_lt ha))) (half8_lt (half8_lt (half8_lt hb))) h)))
theorem xor_left {s a b : Nat} (h : s ^^^ a = s ^^^ b) : a = b := by
 have : s ^^^ (s ^^^ a) = s ^^^ (s ^^^ b) := by rw [h]
 rwa [← Nat.xor_assoc, ← Nat.xor_assoc, Nat.xor_self, Nat.zero_xor, Nat.zero_xor] at this
theorem burst_on {pre suf : List Nat} {p q r s a b c d t : Nat} (ht : t < 4294967296) (hl : bytesP (pre ++ p :: q :: r :: s :: suf)) (ha : a < 256) (hb : b < 256) (hc : c < 256) (hd : d < 256) (h : ¬ (a = 0 ∧ b = 0 ∧ c = 0 ∧ d = 0)) :
  onN t (pre ++ (p ^^^ a) :: (q ^^^ b) :: (r ^^^ c) :: (s ^^^ d) :: suf) ≠ onN t (pre ++ p :: q :: r :: s :: suf) := by
 intro he
 have hpre : bytesP pre := fun x hx => hl x (by simp [hx])
 have hsuf : bytesP suf := fun x hx => hl x (by simp [hx])
 have hp := hl p (by simp)
 have hq := hl q (by simp)
 have hr := hl r (by simp)
 have hs := hl s (by simp)
 have ht' := onN_lt ht hpre
 have e1 : ∀ w x y z : Nat, onN t (pre ++ w :: x :: y :: z :: suf) = onN (onN (onN t pre) [w, x, y, z]) suf := fun w x y z => by
  rw [onN_append]
  exact onN_append (onN t pre) [w, x, y, z] suf
 rw [e1, e1] at he
 have b4 : ∀ w x y z : Nat, w < 256 → x < 256 → y < 256 → z < 256 → bytesP [w, x, y, z] := fun w x y z h1 h2 h3 h4 v hv => by
  simp at hv
  rcases hv with rfl | rfl | rfl | rfl <;> assumption
 have h1 := onN_inj (onN_lt ht' (b4 _ _ _ _ (x8 hp ha) (x8 hq hb) (x8 hr hc) (x8 hs hd))) (onN_lt ht' (b4 _ _ _ _ hp hq hr hs)) hsuf he
 rw [on4 (x8 hp ha) (x8 hq hb) (x8 hr hc), on4 hp hq hr] at h1
 have h2 := xor_left (h84_inj (x32 ht' (word_lt (x8 hp ha) (x8 hq hb) (x8 hr hc) (x8 hs hd))) (x32 ht' (word_lt hp hq hr hs)) h1)
 obtain ⟨g1, g2, g3, g4⟩ := word_inj (x8 hp ha) (x8 hq hb) (x8 hr hc) hp hq hr h2
 exact h ⟨xor_keep g1, xor_keep g2, xor_keep g3, xor_keep g4⟩
def crcN (l : List Nat) : Nat := 4294967295 ^^^ onN 4294967295 l
theorem crcN_lt {l : List Nat} (h : bytesP l) : crcN l < 4294967296 := x32 (by decide) (onN_lt (by decide) h)
def resC : Nat := half8 (half8 (half8 (half8 4294967295)))
theorem valid_iff {m : List Nat} {a b c d : Nat} (h : bytesP (m ++ [a, b, c, d])) : wordC a b c d = crcN m ↔ onN 4294967295 (m ++ [a, b, c, d]) = resC := by
 have hm : bytesP m := fun x hx => h x (by simp [hx])
 have ha := h a (by simp)
 have hb := h b (by simp)
 have hc := h c (by simp)
 have hd := h d (by simp)
 have hs := onN_lt (s := 4294967295) (by decide) hm
 rw [onN_append, on4 ha hb hc]
 unfold crcN resC
 constructor
 ·intro e; rw [e, Nat.xor_comm 4294967295, ← Nat.xor_assoc, Nat.xor_self, Nat.zero_xor]
 ·intro e
  have := h84_inj (x32 hs (word_lt ha hb hc hd)) (by decide) e
  generalize onN 4294967295 m = S at this
  generalize wordC a b c d = W at this
  rw [← this, Nat.xor_comm S, Nat.xor_assoc, Nat.xor_self, Nat.xor_zero]

def itC : Nat → Nat → Nat
 | 0, n => n
 | i + 1, n => half (itC i n)
theorem it_lt {n : Nat} (h : n < 4294967296) : ∀ i, itC i n < 4294967296
 | 0 => h
 | i + 1 => half_lt (it_lt h i)
theorem step_eq {s c : Nat} (hs : s < 4294967296) (hc : c < 256) : crc_Step s c = some ((half8 (s ^^^ c) : Nat) : Int) := by
 unfold crc_Step
 have hx : s ^^^ c < 4294967296 := x32 hs (by omega)
 rw [wu32 (by omega) (by omega), u32_xor_nat s c hs (by omega)]
 refine bind_of (fun o => o = ((half8 (s ^^^ c) : Nat) : Int)) (loop_count 8 (fun i => (((itC i (s ^^^ c) : Nat) : Int), (i : Int))) (fun _ => True) _ rfl trivial (fun i hi _ => .inl ⟨?_, trivial⟩) (fun _ => ⟨_, rfl, rfl⟩) (by omega)) ?_
 ·have hit := it_lt hx i
  simp only
  generalize hn : itC i (s ^^^ c) = n at hit
  have e1 : bits .and .u32 (n : Int) 1 = ((n % 2 : Nat) : Int) := by
   have := u32_and_nat n 1 hit (by omega)
   rw [Nat.and_one_is_mod] at this
   exact this
  have e2 : Int.fdiv (n : Int) 2 = ((n / 2 : Nat) : Int) := by rw [Int.fdiv_eq_ediv_of_nonneg _ (by omega)]; omega
  have e3 : bits .xor .u32 ((n / 2 : Nat) : Int) 3988292384 = ((n / 2 ^^^ 3988292384 : Nat) : Int) := u32_xor_nat (n / 2) 3988292384 (by omega) (by omega)
  have e4 : itC (i + 1) (s ^^^ c) = half n := by show half (itC i (s ^^^ c)) = half n; rw [hn]
  rw [e1, e2, e3, e4, dT (show (i : Int) < 8 by omega), w64 (by omega) (by omega)]
  unfold half
  by_cases h : n % 2 = 1
  ·rw [if_pos h, dT (by omega)]; rfl
  ·rw [if_neg h, dF (by omega)]; rfl
 ·rintro o rfl; rfl
theorem through_eq {l : List Nat} {s : Nat} (hl : bytesP l) (hs : s < 4294967296) (hb : l.length ≤ 4294967296) : crc_through_s0 (up l) s = some ((onN s l : Nat) : Int) := by
 unfold crc_through_s0
 rw [loop_fold l (fun pre => (((up pre).length : Int), ((onN s pre : Nat) : Int))) ((onN s l : Nat) : Int)]
 ·rfl
 ·intro pre x suf h
  have hx := hl x (by rw [h]; simp)
  have hp : bytesP pre := fun y hy => hl y (by rw [h]; simp [hy])
  have hu : up l = up pre ++ (x : Int) :: up suf := by rw [h, up_append, up_cons]
  have hl' : (up pre ++ (x : Int) :: up suf).length ≤ 4611686018427387904 := by rw [← hu, up_len]; omega
  have e1 : up (pre ++ [x]) = up pre ++ [(x : Int)] := by rw [up_append]; rfl
  simp only
  rw [hu, lt_mid, inR_mid, nth_mid, w_mid hl', e1, onN_append]
  unfold crc_On_1_s0
  rw [step_eq (onN_lt hs hp) hx]
  rfl
 ·simp only; rw [lt_end]; rfl
 ·omega
theorem on_eq {l : List Nat} {s : Nat} (hl : bytesP l) (hs : s < 4294967296) (hb : l.length ≤ 4294967296) : crc_On s (up l) = some ((4294967295 ^^^ onN (4294967295 ^^^ s) l : Nat) : Int) := by
 unfold crc_On
 have e0 : bits .xor .u32 4294967295 (s : Int) = ((4294967295 ^^^ s : Nat) : Int) := u32_xor_nat 4294967295 s (by decide) hs
 have h1 : 4294967295 ^^^ s < 4294967296 := x32 (by decide) hs
 rw [e0, through_eq hl h1 hb]
 simp only [Option.bind_some]
 have e1 : bits .xor .u32 4294967295 ((onN (4294967295 ^^^ s) l : Nat) : Int) = ((4294967295 ^^^ onN (4294967295 ^^^ s) l : Nat) : Int) := u32_xor_nat 4294967295 _ (by decide) (onN_lt h1 hl)
 rw [e1]
theorem of_eq {l : List Nat} (hl : bytesP l) (hb : l.length ≤ 4294967296) : crc_Of (up l) = some ((crcN l : Nat) : Int) := by
 unfold crc_Of
 have := on_eq (s := 0) hl (by decide) hb
 rw [show ((0 : Nat) : Int) = 0 from rfl] at this
 rw [this]; rfl
def tailN (y : Nat) : List Nat := [y % 256, y / 256 % 256, y / 65536 % 256, y / 16777216 % 256]
theorem tailN_word {y : Nat} (h : y < 4294967296) : wordC (y % 256) (y / 256 % 256) (y / 65536 % 256) (y / 16777216 % 256) = y := by unfold wordC; omega
theorem tail_eq {l : List Nat} (hl : bytesP l) (hb : l.length ≤ 4294967296) : crc_tail (up l) = some ⟨((crcN l % 256 : Nat) : Int), ((crcN l / 256 % 256 : Nat) : Int), ((crcN l / 65536 % 256 : Nat) : Int), ((crcN l / 16777216 % 256 : Nat) : Int)⟩ := by
 unfold crc_tail
 rw [of_eq hl hb]
 simp only [Option.bind_some]
 generalize crcN l = y
 have f : ∀ k : Nat, Int.fdiv (y : Int) (k : Int) = ((y / k : Nat) : Int) := fun k => by rw [Int.fdiv_eq_ediv_of_nonneg _ (by omega)]; rfl
 have f1 : Int.fdiv (y : Int) 256 = ((y / 256 : Nat) : Int) := f 256
 have f2 : Int.fdiv (y : Int) 65536 = ((y / 65536 : Nat) : Int) := f 65536
 have f3 : Int.fdiv (y : Int) 16777216 = ((y / 16777216 : Nat) : Int) := f 16777216
 rw [f1, f2, f3, u8m, u8m, u8m, u8m]
 rfl
theorem cput_eq {l : List Nat} (hl : bytesP l) (hb : l.length ≤ 4294967290) : crc_Put (up l) = some (up (l ++ tailN (crcN l))) := by
 unfold crc_Put
 rw [tail_eq hl (by omega)]
 simp only [Option.bind_some]
 rw [clone_eq (by rw [up_len]; omega)]
 simp only [Option.bind_some]
 rw [room_of (by rw [up_len]; simp; omega), up_append]
 rfl
theorem cut_short {l : List Nat} (h : l.length < 4) : crc_Cut (up l) = some ([], 2) := by
 unfold crc_Cut
 rw [up_len, w64 (by omega) (by omega), dT (by omega)]; rfl
theorem cut_pre {xs ys : List Int} : cut (xs ++ ys) 0 (xs.length : Int) = xs := by simp [cut]
theorem cut_suf {xs ys : List Int} {n : Int} (h : n = (xs ++ ys).length) : cut (xs ++ ys) (xs.length : Int) n = ys := by subst h; unfold cut; rw [Int.toNat_natCast, Int.toNat_natCast, List.take_length]; simp
theorem tailN_eq {a b c d y : Nat} (ha : a < 256) (hb : b < 256) (hc : c < 256) (hd : d < 256) (hy : y < 4294967296) :
  wordC a b c d = y ↔ (a = y % 256 ∧ b = y / 256 % 256 ∧ c = y / 65536 % 256 ∧ d = y / 16777216 % 256) := by unfold wordC; omega
theorem cut_eq {m : List Nat} {a b c d : Nat} (hl : bytesP (m ++ [a, b, c, d])) (hb : m.length ≤ 4294967290) : crc_Cut (up (m ++ [a, b, c, d])) = some (if wordC a b c d = crcN m then (up m, 0) else ([], 6)) := by
 unfold crc_Cut
 have hm : bytesP m := fun x hx => hl x (by simp [hx])
 have ha := hl a (by simp)
 have hb' := hl b (by simp)
 have hc := hl c (by simp)
 have hd := hl d (by simp)
 have hy := crcN_lt hm
 have e0 : IntKind.wrap .i64 (((up (m ++ [a, b, c, d])).length : Int) - 4) = ((up m).length : Int) := by
  rw [up_len, up_len]
  simp
  exact w64 (by omega) (by omega)
 have hu : up (m ++ [a, b, c, d]) = up m ++ [(a : Int), (b : Int), (c : Int), (d : Int)] := up_append _ _
 rw [e0, dF (by omega), hu, cut_pre, cut_suf rfl, tail_eq hm (by omega), clone_eq (by rw [up_len]; omega)]
 have i1 : inS ((up m).length : Int) ((up m ++ [(a : Int), (b : Int), (c : Int), (d : Int)]).length : Int) (up m ++ [(a : Int), (b : Int), (c : Int), (d : Int)]).length = true := inS_of (by omega) (by simp <;> omega) (by omega)
 have i2 : inS 0 ((up m).length : Int) (up m ++ [(a : Int), (b : Int), (c : Int), (d : Int)]).length = true := inS_of (by omega) (by omega) (by simp <;> omega)
 rw [i1, i2]
 have n0 : nth [(a : Int), (b : Int), (c : Int), (d : Int)] 0 = a := rfl
 have n1 : nth [(a : Int), (b : Int), (c : Int), (d : Int)] 1 = b := rfl
 have n2 : nth [(a : Int), (b : Int), (c : Int), (d : Int)] 2 = c := rfl
 have n3 : nth [(a : Int), (b : Int), (c : Int), (d : Int)] 3 = d := rfl
 rw [n0, n1, n2, n3]
 have ht := tailN_eq ha hb' hc hd hy
 generalize crcN m = y at *
 have hb4 : Nat.ble 4 [(a : Int), (b : Int), (c : Int), (d : Int)].length = true := rfl
 simp only [cond_true, cond_false, Option.bind_some, hb4]
 by_cases h : wordC a b c d = y
 ·obtain ⟨g1, g2, g3, g4⟩ := ht.1 h
  rw [if_pos h, dT (by omega), dT (by omega), dT (by omega), dT (by omega)]; rfl
 ·rw [if_neg h]
  have hn : ¬ (a = y % 256 ∧ b = y / 256 % 256 ∧ c = y / 65536 % 256 ∧ d = y / 16777216 % 256) := fun g => h (ht.2 g)
  have : ((decide ((a : Int) = ((y % 256 : Nat) : Int))) && ((decide ((b : Int) = ((y / 256 % 256 : Nat) : Int))) && ((decide ((c : Int) = ((y / 65536 % 256 : Nat) : Int))) && ((decide ((d : Int) = ((y / 16777216 % 256 : Nat) : Int))) && true)))) = false := by
   rw [Bool.eq_false_iff]
   intro hx
   simp only [Bool.and_eq_true, decide_eq_true_eq, Bool.and_true] at hx
   exact hn (by omega)
  rw [this]; rfl
theorem split4 {l : List Nat} (h : 4 ≤ l.length) : ∃ m a b c d, l = m ++ [a, b, c, d] := by
 have h4 : (l.drop (l.length - 4)).length = 4 := by simp; omega
 obtain ⟨a, b, c, d, he⟩ := l4 h4
 exact ⟨l.take (l.length - 4), a, b, c, d, by rw [← he, List.take_append_drop]⟩
theorem tail_bytes (y : Nat) : bytesP (tailN y) := fun x hx => by
 simp [tailN] at hx
 rcases hx with rfl | rfl | rfl | rfl <;> omega
theorem put_valid {l : List Nat} (hl : bytesP l) : onN 4294967295 (l ++ tailN (crcN l)) = resC := by
 have hy := crcN_lt hl
 unfold tailN
 exact (valid_iff (bytes_append hl (tail_bytes _))).1 (tailN_word hy)
theorem cut_bad {l : List Nat} (hl : bytesP l) (h4 : 4 ≤ l.length) (hb : l.length ≤ 4294967290) (h : onN 4294967295 l ≠ resC) : crc_Cut (up l) = some ([], 6) := by
 obtain ⟨m, a, b, c, d, rfl⟩ := split4 h4
 rw [cut_eq hl (by simp at hb; omega), if_neg (fun e => h ((valid_iff hl).1 e))]
/-! What is put: numbers of sizes, one behind the other. -/
theorem u32m (n : Int) : IntKind.u32.wrap n = n % 4294967296 := by
 unfold IntKind.wrap
 simp only [IntKind.signed, IntKind.bits, Bool.false_and, Bool.false_eq_true, if_false]
 rfl
def putS (n : Int) (k : Nat) : Bool × List Nat :=
 if (n % 4294967296).toNat < 256 ^ k then (decide (¬ n = ((n % 4294967296).toNat : Int)), beN (n % 4294967296).toNat k) else (true, [])
def iB (I : List (Int × Nat)) : Bool := I.any fun x => (putS x.1 x.2).1
def iE (I : List (Int × Nat)) : List Nat := I.flatMap fun x => (putS x.1 x.2).2
theorem iB_app (I J : List (Int × Nat)) : iB (I ++ J) = (iB I || iB J) := by simp [iB]
theorem iE_app (I J : List (Int × Nat)) : iE (I ++ J) = iE I ++ iE J := by simp [iE]
theorem iB_cons (x : Int × Nat) (J : List (Int × Nat)) : iB (x :: J) = ((putS x.1 x.2).1 || iB J) := by simp [iB]
theorem iE_cons (x : Int × Nat) (J : List (Int × Nat)) : iE (x :: J) = (putS x.1 x.2).2 ++ iE J := by simp [iE]
theorem putS_len (n : Int) (k : Nat) : (putS n k).2.length ≤ k := by
 unfold putS
 split
 ·simp [beN_len]
 ·simp
theorem putS_bytes (n : Int) (k : Nat) : bytesP (putS n k).2 := by
 unfold putS
 split
 ·exact beN_bytes _ _
 ·intro c hc; cases hc
theorem iE_len : ∀ {I : List (Int × Nat)}, (∀ x ∈ I, x.2 ≤ 4) → (iE I).length ≤ 4 * I.length
 | [], _ => by simp [iE]
 | x :: I, h => by
  have h1 := iE_len (I := I) fun y hy => h y (List.mem_cons_of_mem _ hy)
  have h2 := putS_len x.1 x.2
  have h3 := h x (List.mem_cons_self ..)
  rw [iE_cons, List.length_append, List.length_cons]
  omega
theorem iE_bytes (I : List (Int × Nat)) : bytesP (iE I) := fun c hc => by
 unfold iE at hc
 obtain ⟨x, _, hx⟩ := List.mem_flatMap.1 hc
 exact putS_bytes _ _ c hx
theorem putS_fit {n : Int} {k : Nat} (h0 : 0 ≤ n) (h1 : n < 4294967296) (h : n.toNat < 256 ^ k) : putS n k = (false, beN n.toNat k) := by
 unfold putS
 have e : n % 4294967296 = n := by omega
 rw [e, if_pos h, dF (by omega)]
theorem putS_bad {n : Int} {k : Nat} (h : ¬ (0 ≤ n ∧ n < 4294967296 ∧ n.toNat < 256 ^ k)) : (putS n k).1 = true := by
 unfold putS
 split
 ·rename_i h1
  show decide _ = true
  refine dT fun e => h ⟨by omega, by omega, ?_⟩
  have : (n % 4294967296).toNat = n.toNat := by omega
  omega
 ·rfl
section
variable {x0 : Tx} {x1 x2 x3 x4 x5 x6 x7 : Int} {x8 x9 x10 x11 : Tx} {x12 : List St57} {x13 : List St59} {x14 : List St61} {x15 : List Tx} {bad : Bool} {out : List Nat}
theorem put16 {n : Int} {k : Nat} (hk : sz k) (hn : -9223372036854775808 ≤ n ∧ n < 9223372036854775808) {x16 : List Int} (hl : out.length ≤ 4000000000) :
  bund_writer__put_s0 n (k : Int) x0 x1 x2 x3 x4 x5 x6 x7 x8 x9 x10 x11 x12 x13 x14 x15 x16 bad (up out) = some (bad || (putS n k).1, up (out ++ (putS n k).2)) := by
 unfold bund_writer__put_s0 putS
 have h0 : (0 : Int) ≤ n % 4294967296 := by omega
 have h1 : n % 4294967296 < 4294967296 := by omega
 rw [u32m]
 generalize hm : (n % 4294967296).toNat = m
 have hm2 : n % 4294967296 = (m : Int) := by omega
 rw [hm2, show ([] : List Int) = up [] from rfl, put_eq (l := []) (by omega) (by simp)]
 unfold putV
 have hkl := sz_le hk
 by_cases h : m < 256 ^ k
 ·rw [if_pos ⟨hk, h⟩, if_pos h]
  simp only [Option.bind_some, not_true_eq_false, decide_false, cond_false, List.nil_append]
  rw [w64 (by omega) (by omega)]
  have hr : room ((up out).length + (up (beN m k)).length) = true := room_of (by rw [up_len, up_len, beN_len]; omega)
  by_cases he : n = (m : Int)
  ·rw [dF (fun g => g he)]
   simp only [cond_false, Option.bind_some]
   rw [hr, up_append]; simp
  ·rw [dT he]
   simp only [cond_true, Option.bind_some]
   rw [hr, up_append]; simp
 ·rw [if_neg (fun q => h q.2), if_neg h]
  simp only [Option.bind_some]
  rw [dT (by omega)]
  simp only [cond_true, Option.bind_some]
  have hr : room ((up out).length + (up []).length) = true := room_of (by rw [up_len, up_len]; simp; omega)
  rw [hr]; simp [up]
theorem put1 {n : Int} (hn : -9223372036854775808 ≤ n ∧ n < 9223372036854775808) {x16 : List Int} (hl : out.length ≤ 4000000000) :
  bund_writer__put_s0 n 1 x0 x1 x2 x3 x4 x5 x6 x7 x8 x9 x10 x11 x12 x13 x14 x15 x16 bad (up out) = some (bad || (putS n 1).1, up (out ++ (putS n 1).2)) := put16 (k := 1) (.inl rfl) hn hl
theorem put2 {n : Int} (hn : -9223372036854775808 ≤ n ∧ n < 9223372036854775808) {x16 : List Int} (hl : out.length ≤ 4000000000) :
  bund_writer__put_s0 n 2 x0 x1 x2 x3 x4 x5 x6 x7 x8 x9 x10 x11 x12 x13 x14 x15 x16 bad (up out) = some (bad || (putS n 2).1, up (out ++ (putS n 2).2)) := put16 (k := 2) (.inr (.inl rfl)) hn hl
theorem put4 {n : Int} (hn : -9223372036854775808 ≤ n ∧ n < 9223372036854775808) {x16 : List Int} (hl : out.length ≤ 4000000000) :
  bund_writer__put_s0 n 4 x0 x1 x2 x3 x4 x5 x6 x7 x8 x9 x10 x11 x12 x13 x14 x15 x16 bad (up out) = some (bad || (putS n 4).1, up (out ++ (putS n 4).2)) := put16 (k := 4) (.inr (.inr rfl)) hn hl
theorem cut1 {r : Nat} {R : List Nat} : cut (up (r :: R)) 1 ((up (r :: R)).length : Int) = up R := by
 unfold cut
 rw [Int.toNat_natCast, List.take_length]; rfl
theorem text2 {r : Nat} (hr : r < 4294967296) {R : List Nat} (hl : out.length ≤ 4000000000) :
  bund_writer__text_s0 x0 x1 x2 x3 x4 x5 x6 x7 x8 x9 x10 x11 x12 x13 x14 x15 (up (r :: R)) bad (up out) = some (bad || (putS r 2).1, up (out ++ (putS r 2).2)) := by
 unfold bund_writer__text_s0
 have h1 : inR 0 (up (r :: R)).length = true := inR_int (by omega) (by rw [up_len]; simp)
 have h2 : nth (up (r :: R)) 0 = (r : Int) := rfl
 rw [h1, h2, put2 (by omega) hl]
 simp only [cond_true, Option.bind_some]
 rw [inS_of (by omega) (by rw [up_len]; simp; omega) (by omega)]; rfl
def I2 (q : Tx → Nat) (t : Tx) (s : List Int) : List (Int × Nat) := ((q t : Int), 2) :: s.map fun n => (n, 4)
def I3 (q : Tx → Nat) (ps : List Tx) : List (Int × Nat) := ps.map fun t => ((q t : Int), 2)
def I4 (q : Tx → Nat) (n : Int) (rs : List St57) : List (Int × Nat) := (n, 2) :: rs.flatMap fun r => [(r.Cat_, 1), ((q r.Text_ : Int), 2)]
def I5 (q : Tx → Nat) (n : Int) (cs : List St59) : List (Int × Nat) := (n, 2) :: cs.flatMap fun c => [((q c.Code_ : Int), 2), ((q c.Sign_ : Int), 2), (c.Digits_, 1)]
def I6 (q : Tx → Nat) (n : Int) (cs : List St61) : List (Int × Nat) := (n, 2) :: cs.flatMap fun c => [(c.Mag_, 1), (c.Cat_, 1), ((q c.Pat_ : Int), 2)]
theorem I4_snoc (q : Tx → Nat) (n : Int) (rs : List St57) (r : St57) : I4 q n (rs ++ [r]) = I4 q n rs ++ [(r.Cat_, 1), ((q r.Text_ : Int), 2)] := by simp [I4]
theorem I5_snoc (q : Tx → Nat) (n : Int) (rs : List St59) (c : St59) : I5 q n (rs ++ [c]) = I5 q n rs ++ [((q c.Code_ : Int), 2), ((q c.Sign_ : Int), 2), (c.Digits_, 1)] := by simp [I5]
theorem I6_snoc (q : Tx → Nat) (n : Int) (rs : List St61) (c : St61) : I6 q n (rs ++ [c]) = I6 q n rs ++ [(c.Mag_, 1), (c.Cat_, 1), ((q c.Pat_ : Int), 2)] := by simp [I6]
theorem I4_len (q : Tx → Nat) (n : Int) (rs : List St57) : (iE (I4 q n rs)).length ≤ 4 * (1 + 2 * rs.length) := by
 refine Nat.le_trans (iE_len fun x hx => ?_) ?_
 ·unfold I4 at hx
  simp only [List.mem_cons, List.mem_flatMap, List.not_mem_nil, or_false] at hx
  rcases hx with rfl | ⟨r, _, rfl | rfl⟩ <;> simp
 ·unfold I4
  rw [List.length_cons, show (rs.flatMap fun r => [(r.Cat_, 1), ((q r.Text_ : Int), 2)]).length = 2 * rs.length from by induction rs with
   | nil => rfl
   | cons r rs ih => simp only [List.flatMap_cons, List.length_append, ih, List.length_cons, List.length_nil]; omega]
  omega
theorem I5_len (q : Tx → Nat) (n : Int) (rs : List St59) : (iE (I5 q n rs)).length ≤ 4 * (1 + 3 * rs.length) := by
 refine Nat.le_trans (iE_len fun x hx => ?_) ?_
 ·unfold I5 at hx
  simp only [List.mem_cons, List.mem_flatMap, List.not_mem_nil, or_false] at hx
  rcases hx with rfl | ⟨r, _, rfl | rfl | rfl⟩ <;> simp
 ·unfold I5
  rw [List.length_cons, show (rs.flatMap fun c => [((q c.Code_ : Int), 2), ((q c.Sign_ : Int), 2), (c.Digits_, 1)]).length = 3 * rs.length from by induction rs with
   | nil => rfl
   | cons r rs ih => simp only [List.flatMap_cons, List.length_append, ih, List.length_cons, List.length_nil]; omega]
  omega
theorem I6_len (q : Tx → Nat) (n : Int) (rs : List St61) : (iE (I6 q n rs)).length ≤ 4 * (1 + 3 * rs.length) := by
 refine Nat.le_trans (iE_len fun x hx => ?_) ?_
 ·unfold I6 at hx
  simp only [List.mem_cons, List.mem_flatMap, List.not_mem_nil, or_false] at hx
  rcases hx with rfl | ⟨r, _, rfl | rfl | rfl⟩ <;> simp
 ·unfold I6
  rw [List.length_cons, show (rs.flatMap fun c => [(c.Mag_, 1), (c.Cat_, 1), ((q c.Pat_ : Int), 2)]).length = 3 * rs.length from by induction rs with
   | nil => rfl
   | cons r rs ih => simp only [List.flatMap_cons, List.length_append, ih, List.length_cons, List.length_nil]; omega]
  omega
theorem names_eq {q : Tx → Nat} (hq : ∀ t, q t < 4294967296) {R : List Nat} (hs : ∀ n ∈ [x1, x2, x3, x4, x5, x6, x7], -2147483648 ≤ n ∧ n < 2147483648) (hl : out.length ≤ 3000000000) :
  bund_writer__names_s0 x0 x1 x2 x3 x4 x5 x6 x7 x8 x9 x10 x11 x12 x13 x14 x15 (up (q x0 :: R)) bad (up out) = some (bad || iB (I2 q x0 [x1, x2, x3, x4, x5, x6, x7]), up (out ++ iE (I2 q x0 [x1, x2, x3, x4, x5, x6, x7]))) := by
 have b1 := hs x1 (by simp)
 have b2 := hs x2 (by simp)
 have b3 := hs x3 (by simp)
 have b4 := hs x4 (by simp)
 have b5 := hs x5 (by simp)
 have b6 := hs x6 (by simp)
 have b7 := hs x7 (by simp)
 unfold bund_writer__names_s0
 rw [text2 (hq x0) (by omega), cut1]
 simp only [Option.bind_some]
 rw [w64 (n := x1) (by omega) (by omega), w64 (n := x2) (by omega) (by omega), w64 (n := x3) (by omega) (by omega), w64 (n := x4) (by omega) (by omega), w64 (n := x5) (by omega) (by omega), w64 (n := x6) (by omega) (by omega), w64 (n := x7) (by omega) (by omega)]
 have g0 := putS_len (q x0 : Int) 2
 have g1 := putS_len x1 4
 have g2 := putS_len x2 4
 have g3 := putS_len x3 4
 have g4 := putS_len x4 4
 have g5 := putS_len x5 4
 have g6 := putS_len x6 4
 have g7 := putS_len x7 4
 refine (loopN_next (n := 18446744073709551615) (s' := ((1 : Int), ((bad || (putS (q x0 : Int) 2).1) || (putS x1 4).1), up ((out ++ (putS (q x0 : Int) 2).2) ++ (putS x1 4).2))) ?_).trans ?_
 ·show Option.bind (bund_writer__put_s0 x1 4 x0 x1 x2 x3 x4 x5 x6 x7 x8 x9 x10 x11 x12 x13 x14 x15 (up R) (bad || (putS (q x0 : Int) 2).1) (up (out ++ (putS (q x0 : Int) 2).2))) _ = _
  rw [put4 (by omega) (by simp only [List.length_append]; omega)]; rfl
 refine (loopN_next (n := 18446744073709551614) (s' := ((2 : Int), (((bad || (putS (q x0 : Int) 2).1) || (putS x1 4).1) || (putS x2 4).1), up (((out ++ (putS (q x0 : Int) 2).2) ++ (putS x1 4).2) ++ (putS x2 4).2))) ?_).trans ?_
 ·show Option.bind (bund_writer__put_s0 x2 4 x0 x1 x2 x3 x4 x5 x6 x7 x8 x9 x10 x11 x12 x13 x14 x15 (up R) ((bad || (putS (q x0 : Int) 2).1) || (putS x1 4).1) (up ((out ++ (putS (q x0 : Int) 2).2) ++ (putS x1 4).2))) _ = _
  rw [put4 (by omega) (by simp only [List.length_append]; omega)]; rfl
 refine (loopN_next (n := 18446744073709551613) (s' := ((3 : Int), ((((bad || (putS (q x0 : Int) 2).1) || (putS x1 4).1) || (putS x2 4).1) || (putS x3 4).1), up ((((out ++ (putS (q x0 : Int) 2).2) ++ (putS x1 4).2) ++ (putS x2 4).2) ++ (putS x3 4).2))) ?_).trans ?_
 ·show Option.bind (bund_writer__put_s0 x3 4 x0 x1 x2 x3 x4 x5 x6 x7 x8 x9 x10 x11 x12 x13 x14 x15 (up R) (((bad || (putS (q x0 : Int) 2).1) || (putS x1 4).1) || (putS x2 4).1) (up (((out ++ (putS (q x0 : Int) 2).2) ++ (putS x1 4).2) ++ (putS x2 4).2))) _ = _
  rw [put4 (by omega) (by simp only [List.length_append]; omega)]; rfl
 refine (loopN_next (n := 18446744073709551612) (s' := ((4 : Int), (((((bad || (putS (q x0 : Int) 2).1) || (putS x1 4).1) || (putS x2 4).1) || (putS x3 4).1) || (putS x4 4).1), up (((((out ++ (putS (q x0 : Int) 2).2) ++ (putS x1 4).2) ++ (putS x2 4).2) ++ (putS x3 4).2) ++ (putS x4 4).2))) ?_).trans ?_
 ·show Option.bind (bund_writer__put_s0 x4 4 x0 x1 x2 x3 x4 x5 x6 x7 x8 x9 x10 x11 x12 x13 x14 x15 (up R) ((((bad || (putS (q x0 : Int) 2).1) || (putS x1 4).1) || (putS x2 4).1) || (putS x3 4).1) (up ((((out ++ (putS (q x0 : Int) 2).2) ++ (putS x1 4).2) ++ (putS x2 4).2) ++ (putS x3 4).2))) _ = _
  rw [put4 (by omega) (by simp only [List.length_append]; omega)]; rfl
 refine (loopN_next (n := 18446744073709551611) (s' := ((5 : Int), ((((((bad || (putS (q x0 : Int) 2).1) || (putS x1 4).1) || (putS x2 4).1) || (putS x3 4).1) || (putS x4 4).1) || (putS x5 4).1), up ((((((out ++ (putS (q x0 : Int) 2).2) ++ (putS x1 4).2) ++ (putS x2 4).2) ++ (putS x3 4).2) ++ (putS x4 4).2) ++ (putS x5 4).2))) ?_).trans ?_
 ·show Option.bind (bund_writer__put_s0 x5 4 x0 x1 x2 x3 x4 x5 x6 x7 x8 x9 x10 x11 x12 x13 x14 x15 (up R) (((((bad || (putS (q x0 : Int) 2).1) || (putS x1 4).1) || (putS x2 4).1) || (putS x3 4).1) || (putS x4 4).1) (up (((((out ++ (putS (q x0 : Int) 2).2) ++ (putS x1 4).2) ++ (putS x2 4).2) ++ (putS x3 4).2) ++ (putS x4 4).2))) _ = _
  rw [put4 (by omega) (by simp only [List.length_append]; omega)]; rfl
 refine (loopN_next (n := 18446744073709551610) (s' := ((6 : Int), (((((((bad || (putS (q x0 : Int) 2).1) || (putS x1 4).1) || (putS x2 4).1) || (putS x3 4).1) || (putS x4 4).1) || (putS x5 4).1) || (putS x6 4).1), up (((((((out ++ (putS (q x0 : Int) 2).2) ++ (putS x1 4).2) ++ (putS x2 4).2) ++ (putS x3 4).2) ++ (putS x4 4).2) ++ (putS x5 4).2) ++ (putS x6 4).2))) ?_).trans ?_
 ·show Option.bind (bund_writer__put_s0 x6 4 x0 x1 x2 x3 x4 x5 x6 x7 x8 x9 x10 x11 x12 x13 x14 x15 (up R) ((((((bad || (putS (q x0 : Int) 2).1) || (putS x1 4).1) || (putS x2 4).1) || (putS x3 4).1) || (putS x4 4).1) || (putS x5 4).1) (up ((((((out ++ (putS (q x0 : Int) 2).2) ++ (putS x1 4).2) ++ (putS x2 4).2) ++ (putS x3 4).2) ++ (putS x4 4).2) ++ (putS x5 4).2))) _ = _
  rw [put4 (by omega) (by simp only [List.length_append]; omega)]; rfl
 refine (loopN_next (n := 18446744073709551609) (s' := ((7 : Int), ((((((((bad || (putS (q x0 : Int) 2).1) || (putS x1 4).1) || (putS x2 4).1) || (putS x3 4).1) || (putS x4 4).1) || (putS x5 4).1) || (putS x6 4).1) || (putS x7 4).1), up ((((((((out ++ (putS (q x0 : Int) 2).2) ++ (putS x1 4).2) ++ (putS x2 4).2) ++ (putS x3 4).2) ++ (putS x4 4).2) ++ (putS x5 4).2) ++ (putS x6 4).2) ++ (putS x7 4).2))) ?_).trans ?_
 ·show Option.bind (bund_writer__put_s0 x7 4 x0 x1 x2 x3 x4 x5 x6 x7 x8 x9 x10 x11 x12 x13 x14 x15 (up R) (((((((bad || (putS (q x0 : Int) 2).1) || (putS x1 4).1) || (putS x2 4).1) || (putS x3 4).1) || (putS x4 4).1) || (putS x5 4).1) || (putS x6 4).1) (up (((((((out ++ (putS (q x0 : Int) 2).2) ++ (putS x1 4).2) ++ (putS x2 4).2) ++ (putS x3 4).2) ++ (putS x4 4).2) ++ (putS x5 4).2) ++ (putS x6 4).2))) _ = _
  rw [put4 (by omega) (by simp only [List.length_append]; omega)]; rfl
 refine (loopN_out (n := 18446744073709551608) rfl).trans ?_
 simp only [I2, List.map_cons, List.map_nil, iB_cons, iE_cons, Bool.or_assoc, List.append_assoc]
 simp [iB, iE]
theorem pats_eq {q : Tx → Nat} (hq : ∀ t, q t < 4294967296) {p0 p1 p2 p3 : Tx} {R : List Nat} (hl : out.length ≤ 3000000000) :
  bund_writer__patterns_s0 x0 x1 x2 x3 x4 x5 x6 x7 x8 x9 x10 x11 x12 x13 x14 x15 (up (q p0 :: q p1 :: q p2 :: q p3 :: R)) bad (up out) = some (up R, (bad || iB (I3 q [p0, p1, p2, p3])), up (out ++ iE (I3 q [p0, p1, p2, p3]))) := by
 unfold bund_writer__patterns_s0
 have g0 := putS_len (q p0 : Int) 2
 have g1 := putS_len (q p1 : Int) 2
 have g2 := putS_len (q p2 : Int) 2
 have g3 := putS_len (q p3 : Int) 2
 refine (loopN_next (n := 18446744073709551615) (s' := ((1 : Int), up (q p1 :: q p2 :: q p3 :: R), ((bad) || (putS (q p0 : Int) 2).1), up ((out) ++ (putS (q p0 : Int) 2).2))) ?_).trans ?_
 ·show Option.bind (bund_writer__text_s0 x0 x1 x2 x3 x4 x5 x6 x7 x8 x9 x10 x11 x12 x13 x14 x15 (up (q p0 :: q p1 :: q p2 :: q p3 :: R)) (bad) (up (out))) _ = _
  rw [text2 (hq p0) (by first | omega | (simp only [List.length_append]; omega))]
  simp only [Option.bind_some]
  rw [cut1]; rfl
 refine (loopN_next (n := 18446744073709551614) (s' := ((2 : Int), up (q p2 :: q p3 :: R), (((bad) || (putS (q p0 : Int) 2).1) || (putS (q p1 : Int) 2).1), up (((out) ++ (putS (q p0 : Int) 2).2) ++ (putS (q p1 : Int) 2).2))) ?_).trans ?_
 ·show Option.bind (bund_writer__text_s0 x0 x1 x2 x3 x4 x5 x6 x7 x8 x9 x10 x11 x12 x13 x14 x15 (up (q p1 :: q p2 :: q p3 :: R)) ((bad) || (putS (q p0 : Int) 2).1) (up ((out) ++ (putS (q p0 : Int) 2).2))) _ = _
  rw [text2 (hq p1) (by first | omega | (simp only [List.length_append]; omega))]
  simp only [Option.bind_some]
  rw [cut1]; rfl
 refine (loopN_next (n := 18446744073709551613) (s' := ((3 : Int), up (q p3 :: R), ((((bad) || (putS (q p0 : Int) 2).1) || (putS (q p1 : Int) 2).1) || (putS (q p2 : Int) 2).1), up ((((out) ++ (putS (q p0 : Int) 2).2) ++ (putS (q p1 : Int) 2).2) ++ (putS (q p2 : Int) 2).2))) ?_).trans ?_
 ·show Option.bind (bund_writer__text_s0 x0 x1 x2 x3 x4 x5 x6 x7 x8 x9 x10 x11 x12 x13 x14 x15 (up (q p2 :: q p3 :: R)) (((bad) || (putS (q p0 : Int) 2).1) || (putS (q p1 : Int) 2).1) (up (((out) ++ (putS (q p0 : Int) 2).2) ++ (putS (q p1 : Int) 2).2))) _ = _
  rw [text2 (hq p2) (by first | omega | (simp only [List.length_append]; omega))]
  simp only [Option.bind_some]
  rw [cut1]; rfl
 refine (loopN_next (n := 18446744073709551612) (s' := ((4 : Int), up (R), (((((bad) || (putS (q p0 : Int) 2).1) || (putS (q p1 : Int) 2).1) || (putS (q p2 : Int) 2).1) || (putS (q p3 : Int) 2).1), up (((((out) ++ (putS (q p0 : Int) 2).2) ++ (putS (q p1 : Int) 2).2) ++ (putS (q p2 : Int) 2).2) ++ (putS (q p3 : Int) 2).2))) ?_).trans ?_
 ·show Option.bind (bund_writer__text_s0 x0 x1 x2 x3 x4 x5 x6 x7 x8 x9 x10 x11 x12 x13 x14 x15 (up (q p3 :: R)) ((((bad) || (putS (q p0 : Int) 2).1) || (putS (q p1 : Int) 2).1) || (putS (q p2 : Int) 2).1) (up ((((out) ++ (putS (q p0 : Int) 2).2) ++ (putS (q p1 : Int) 2).2) ++ (putS (q p2 : Int) 2).2))) _ = _
  rw [text2 (hq p3) (by first | omega | (simp only [List.length_append]; omega))]
  simp only [Option.bind_some]
  rw [cut1]; rfl
 refine (loopN_out (n := 18446744073709551611) rfl).trans ?_
 simp only [I3, List.map_cons, List.map_nil, iB_cons, iE_cons, Bool.or_assoc, List.append_assoc]
 simp [iB, iE]
theorem rules_eq {q : Tx → Nat} (hq : ∀ t, q t < 4294967296) {S : List Nat} {rs : List St57} (hn : rs.length ≤ 10000000) (hs : ∀ r ∈ rs, -9223372036854775808 ≤ r.Cat_ ∧ r.Cat_ < 9223372036854775808) (hl : out.length ≤ 3000000000) :
  bund_writer__rules_s0 x0 x1 x2 x3 x4 x5 x6 x7 x8 x9 x10 x11 rs x13 x14 x15 (up (rs.map (fun r => q r.Text_) ++ S)) bad (up out) = some (up S, (bad || iB (I4 q rs.length rs)), up (out ++ iE (I4 q rs.length rs))) := by
 unfold bund_writer__rules_s0
 rw [put2 (by omega) (by omega)]
 simp only [Option.bind_some]
 refine loop_fold rs (fun pre => ((pre.length : Int), up ((rs.drop pre.length).map (fun r => q r.Text_) ++ S), (bad || iB (I4 q rs.length pre)), up (out ++ iE (I4 q rs.length pre)))) _ (by simp [I4, iB, iE]) (fun pre x suf h => ?_) (by simp only; rw [lt_end]; simp) (by omega)
 have hx := hs x (by rw [h]; simp)
 have hdrop : rs.drop pre.length = x :: suf := by rw [h]; simp
 have hdrop2 : rs.drop (pre ++ [x]).length = suf := by rw [h]; simp
 have hpl : pre.length < rs.length := by rw [h]; simp
 have hlen := I4_len q rs.length pre
 have hlen2 := putS_len x.Cat_ 1
 simp only
 rw [hdrop, hdrop2, I4_snoc]
 generalize hNN : (rs.length : Int) = N at *
 have hl' : (pre ++ x :: suf).length ≤ 4611686018427387904 := by rw [← h]; omega
 simp only [List.map_cons, List.cons_append]
 rw [dT (by omega), show inR (pre.length : Int) rs.length = true from inR_int (by omega) (by omega), show nth rs (pre.length : Int) = x from by rw [h]; exact nth_mid]
 simp only [cond_true]
 rw [put1 hx (by simp only [List.length_append]; omega)]
 simp only [Option.bind_some]
 rw [text2 (hq x.Text_) (by simp only [List.length_append]; omega), cut1]
 simp only [Option.bind_some]
 rw [w_mid hl', iB_app, iE_app]
 simp [iB, iE, Bool.or_assoc]
end
section
variable {x0 : Tx} {x1 x2 x3 x4 x5 x6 x7 : Int} {x8 x9 x10 x11 : Tx} {x12 : List St57} {x13 : List St59} {x14 : List St61} {x15 : List Tx} {bad : Bool} {out : List Nat}
theorem curs_eq {q : Tx → Nat} (hq : ∀ t, q t < 4294967296) {S : List Nat} {rs : List St59} (hn : rs.length ≤ 10000000) (hs : ∀ r ∈ rs, -9223372036854775808 ≤ r.Digits_ ∧ r.Digits_ < 9223372036854775808) (hl : out.length ≤ 3000000000) :
  bund_writer__currencies_s0 x0 x1 x2 x3 x4 x5 x6 x7 x8 x9 x10 x11 x12 rs x14 x15 (up (rs.flatMap (fun r => [q r.Code_, q r.Sign_]) ++ S)) bad (up out) = some (up S, (bad || iB (I5 q rs.length rs)), up (out ++ iE (I5 q rs.length rs))) := by
 unfold bund_writer__currencies_s0
 rw [put2 (by omega) (by omega)]
 simp only [Option.bind_some]
 refine loop_fold rs (fun pre => ((pre.length : Int), up ((rs.drop pre.length).flatMap (fun r => [q r.Code_, q r.Sign_]) ++ S), (bad || iB (I5 q rs.length pre)), up (out ++ iE (I5 q rs.length pre)))) _ (by simp [I5, iB, iE]) (fun pre x suf h => ?_) (by simp only; rw [lt_end]; simp) (by omega)
 have hx := hs x (by rw [h]; simp)
 have hdrop : rs.drop pre.length = x :: suf := by rw [h]; simp
 have hdrop2 : rs.drop (pre ++ [x]).length = suf := by rw [h]; simp
 have hpl : pre.length < rs.length := by rw [h]; simp
 have hlen := I5_len q rs.length pre
 have hlen2 := putS_len (q x.Code_ : Int) 2
 have hlen3 := putS_len (q x.Sign_ : Int) 2
 simp only
 rw [hdrop, hdrop2, I5_snoc]
 generalize hNN : (rs.length : Int) = N at *
 have hl' : (pre ++ x :: suf).length ≤ 4611686018427387904 := by rw [← h]; omega
 simp only [List.flatMap_cons, List.cons_append, List.nil_append]
 rw [dT (by omega), show inR (pre.length : Int) rs.length = true from inR_int (by omega) (by omega), show nth rs (pre.length : Int) = x from by rw [h]; exact nth_mid]
 simp only [cond_true]
 rw [text2 (hq x.Code_) (by simp only [List.length_append]; omega), cut1]
 simp only [Option.bind_some]
 rw [text2 (hq x.Sign_) (by simp only [List.length_append]; omega), cut1]
 simp only [Option.bind_some]
 rw [put1 hx (by simp only [List.length_append]; omega)]
 simp only [Option.bind_some]
 rw [w_mid hl', iB_app, iE_app]
 simp [iB, iE, Bool.or_assoc]
theorem comps_eq {q : Tx → Nat} (hq : ∀ t, q t < 4294967296) {S : List Nat} {rs : List St61} (hn : rs.length ≤ 10000000) (hs : ∀ r ∈ rs, (-9223372036854775808 ≤ r.Mag_ ∧ r.Mag_ < 9223372036854775808) ∧ (-9223372036854775808 ≤ r.Cat_ ∧ r.Cat_ < 9223372036854775808)) (hl : out.length ≤ 3000000000) :
  bund_writer__compacts_s0 x0 x1 x2 x3 x4 x5 x6 x7 x8 x9 x10 x11 x12 x13 rs x15 (up (rs.map (fun r => q r.Pat_) ++ S)) bad (up out) = some (up S, (bad || iB (I6 q rs.length rs)), up (out ++ iE (I6 q rs.length rs))) := by
 unfold bund_writer__compacts_s0
 rw [put2 (by omega) (by omega)]
 simp only [Option.bind_some]
 refine loop_fold rs (fun pre => ((pre.length : Int), up ((rs.drop pre.length).map (fun r => q r.Pat_) ++ S), (bad || iB (I6 q rs.length pre)), up (out ++ iE (I6 q rs.length pre)))) _ (by simp [I6, iB, iE]) (fun pre x suf h => ?_) (by simp only; rw [lt_end]; simp) (by omega)
 have hx := hs x (by rw [h]; simp)
 have hdrop : rs.drop pre.length = x :: suf := by rw [h]; simp
 have hdrop2 : rs.drop (pre ++ [x]).length = suf := by rw [h]; simp
 have hpl : pre.length < rs.length := by rw [h]; simp
 have hlen := I6_len q rs.length pre
 have hlen2 := putS_len x.Mag_ 1
 have hlen3 := putS_len x.Cat_ 1
 simp only
 rw [hdrop, hdrop2, I6_snoc]
 generalize hNN : (rs.length : Int) = N at *
 have hl' : (pre ++ x :: suf).length ≤ 4611686018427387904 := by rw [← h]; omega
 simp only [List.map_cons, List.cons_append]
 rw [dT (by omega), show inR (pre.length : Int) rs.length = true from inR_int (by omega) (by omega), show nth rs (pre.length : Int) = x from by rw [h]; exact nth_mid]
 simp only [cond_true]
 rw [put1 hx.1 (by simp only [List.length_append]; omega)]
 simp only [Option.bind_some]
 rw [put1 hx.2 (by simp only [List.length_append]; omega)]
 simp only [Option.bind_some]
 rw [text2 (hq x.Pat_) (by simp only [List.length_append]; omega), cut1]
 simp only [Option.bind_some]
 rw [w_mid hl', iB_app, iE_app]
 simp [iB, iE, Bool.or_assoc]
theorem words_eq {x16 : List Int} (hp : x15.length ≤ 4294967290) (hl : out.length ≤ 3000000000) :
  bund_writer__words_s1 x0 x1 x2 x3 x4 x5 x6 x7 x8 x9 x10 x11 x12 x13 x14 x15 x16 bad (up out) = some ((bad || !decide (poolP x15)), up (out ++ (putPV [] x15).1)) := by
 unfold bund_writer__words_s1
 rw [show ([] : List Int) = up [] from rfl, putp_eq (b := []) (by simp) hp]
 simp only [Option.bind_some]
 by_cases h : poolP x15
 ·have hb := pbytes_len h.2.1
  have h500 := h.1
  have e : putPV [] x15 = (beN x15.length 2 ++ pbytes x15, 0) := by unfold putPV; rw [if_pos h]; simp
  rw [e, dT h]
  simp only [not_true_eq_false, decide_false, cond_false, Option.bind_some]
  rw [room_of (by simp only [up_len, List.length_append, beN_len]; omega), up_append]; simp [up_append]
 ·have e : putPV [] x15 = ([], 1) := by unfold putPV; rw [if_neg h]
  rw [e, dF h]
  simp only [show decide (¬ (1 : Int) = 0) = true from rfl, cond_true, Option.bind_some]
  rw [room_of (by simp only [up_len, List.length_nil]; omega)]; simp [up]
def IH (T : List (Int × Int)) : List (Int × Nat) := [(1, 2), (6, 2)] ++ T.flatMap fun r => [(r.1, 4), (r.2, 4)]
theorem head_eq {a0 b0 a1 b1 a2 b2 a3 b3 a4 b4 a5 b5 : Int} (hs : ∀ n ∈ [a0, b0, a1, b1, a2, b2, a3, b3, a4, b4, a5, b5], 0 ≤ n ∧ n < 9223372036854775808) {x16 : List Int} (hl : out.length ≤ 3000000000) :
  bund_writer__head_s0 (⟨⟨a0, b0⟩, ⟨a1, b1⟩, ⟨a2, b2⟩, ⟨a3, b3⟩, ⟨a4, b4⟩, ⟨a5, b5⟩⟩ : St66) x0 x1 x2 x3 x4 x5 x6 x7 x8 x9 x10 x11 x12 x13 x14 x15 x16 bad (up out) = some (bad || iB (IH [(a0, b0), (a1, b1), (a2, b2), (a3, b3), (a4, b4), (a5, b5)]), up (out ++ iE (IH [(a0, b0), (a1, b1), (a2, b2), (a3, b3), (a4, b4), (a5, b5)]))) := by
 unfold bund_writer__head_s0
 have ha0 := hs a0 (by simp)
 have hb0 := hs b0 (by simp)
 have ga0 := putS_len a0 4
 have gb0 := putS_len b0 4
 have ha1 := hs a1 (by simp)
 have hb1 := hs b1 (by simp)
 have ga1 := putS_len a1 4
 have gb1 := putS_len b1 4
 have ha2 := hs a2 (by simp)
 have hb2 := hs b2 (by simp)
 have ga2 := putS_len a2 4
 have gb2 := putS_len b2 4
 have ha3 := hs a3 (by simp)
 have hb3 := hs b3 (by simp)
 have ga3 := putS_len a3 4
 have gb3 := putS_len b3 4
 have ha4 := hs a4 (by simp)
 have hb4 := hs b4 (by simp)
 have ga4 := putS_len a4 4
 have gb4 := putS_len b4 4
 have ha5 := hs a5 (by simp)
 have hb5 := hs b5 (by simp)
 have ga5 := putS_len a5 4
 have gb5 := putS_len b5 4
 have g0 := putS_len 1 2
 have g1 := putS_len 6 2
 rw [put2 (by omega) (by omega)]
 simp only [Option.bind_some]
 rw [put2 (by omega) (by simp only [List.length_append]; omega)]
 simp only [Option.bind_some]
 refine (loopN_next (n := 18446744073709551615) (s' := ((1 : Int), (((bad || (putS 1 2).1 || (putS 6 2).1) || (putS a0 4).1) || (putS b0 4).1), up (((out ++ (putS 1 2).2 ++ (putS 6 2).2) ++ (putS a0 4).2) ++ (putS b0 4).2))) ?_).trans ?_
 ·show Option.bind (bund_writer__put_s0 a0 4 x0 x1 x2 x3 x4 x5 x6 x7 x8 x9 x10 x11 x12 x13 x14 x15 x16 (bad || (putS 1 2).1 || (putS 6 2).1) (up (out ++ (putS 1 2).2 ++ (putS 6 2).2))) _ = _
  rw [put4 (by omega) (by simp only [List.length_append]; omega)]
  show Option.bind (bund_writer__put_s0 b0 4 x0 x1 x2 x3 x4 x5 x6 x7 x8 x9 x10 x11 x12 x13 x14 x15 x16 ((bad || (putS 1 2).1 || (putS 6 2).1) || (putS a0 4).1) (up ((out ++ (putS 1 2).2 ++ (putS 6 2).2) ++ (putS a0 4).2))) _ = _
  rw [put4 (by omega) (by simp only [List.length_append]; omega)]; rfl
 refine (loopN_next (n := 18446744073709551614) (s' := ((2 : Int), (((((bad || (putS 1 2).1 || (putS 6 2).1) || (putS a0 4).1) || (putS b0 4).1) || (putS a1 4).1) || (putS b1 4).1), up (((((out ++ (putS 1 2).2 ++ (putS 6 2).2) ++ (putS a0 4).2) ++ (putS b0 4).2) ++ (putS a1 4).2) ++ (putS b1 4).2))) ?_).trans ?_
 ·show Option.bind (bund_writer__put_s0 a1 4 x0 x1 x2 x3 x4 x5 x6 x7 x8 x9 x10 x11 x12 x13 x14 x15 x16 (((bad || (putS 1 2).1 || (putS 6 2).1) || (putS a0 4).1) || (putS b0 4).1) (up (((out ++ (putS 1 2).2 ++ (putS 6 2).2) ++ (putS a0 4).2) ++ (putS b0 4).2))) _ = _
  rw [put4 (by omega) (by simp only [List.length_append]; omega)]
  show Option.bind (bund_writer__put_s0 b1 4 x0 x1 x2 x3 x4 x5 x6 x7 x8 x9 x10 x11 x12 x13 x14 x15 x16 ((((bad || (putS 1 2).1 || (putS 6 2).1) || (putS a0 4).1) || (putS b0 4).1) || (putS a1 4).1) (up ((((out ++ (putS 1 2).2 ++ (putS 6 2).2) ++ (putS a0 4).2) ++ (putS b0 4).2) ++ (putS a1 4).2))) _ = _
  rw [put4 (by omega) (by simp only [List.length_append]; omega)]; rfl
 refine (loopN_next (n := 18446744073709551613) (s' := ((3 : Int), (((((((bad || (putS 1 2).1 || (putS 6 2).1) || (putS a0 4).1) || (putS b0 4).1) || (putS a1 4).1) || (putS b1 4).1) || (putS a2 4).1) || (putS b2 4).1), up (((((((out ++ (putS 1 2).2 ++ (putS 6 2).2) ++ (putS a0 4).2) ++ (putS b0 4).2) ++ (putS a1 4).2) ++ (putS b1 4).2) ++ (putS a2 4).2) ++ (putS b2 4).2))) ?_).trans ?_
 ·show Option.bind (bund_writer__put_s0 a2 4 x0 x1 x2 x3 x4 x5 x6 x7 x8 x9 x10 x11 x12 x13 x14 x15 x16 (((((bad || (putS 1 2).1 || (putS 6 2).1) || (putS a0 4).1) || (putS b0 4).1) || (putS a1 4).1) || (putS b1 4).1) (up (((((out ++ (putS 1 2).2 ++ (putS 6 2).2) ++ (putS a0 4).2) ++ (putS b0 4).2) ++ (putS a1 4).2) ++ (putS b1 4).2))) _ = _
  rw [put4 (by omega) (by simp only [List.length_append]; omega)]
  show Option.bind (bund_writer__put_s0 b2 4 x0 x1 x2 x3 x4 x5 x6 x7 x8 x9 x10 x11 x12 x13 x14 x15 x16 ((((((bad || (putS 1 2).1 || (putS 6 2).1) || (putS a0 4).1) || (putS b0 4).1) || (putS a1 4).1) || (putS b1 4).1) || (putS a2 4).1) (up ((((((out ++ (putS 1 2).2 ++ (putS 6 2).2) ++ (putS a0 4).2) ++ (putS b0 4).2) ++ (putS a1 4).2) ++ (putS b1 4).2) ++ (putS a2 4).2))) _ = _
  rw [put4 (by omega) (by simp only [List.length_append]; omega)]; rfl
 refine (loopN_next (n := 18446744073709551612) (s' := ((4 : Int), (((((((((bad || (putS 1 2).1 || (putS 6 2).1) || (putS a0 4).1) || (putS b0 4).1) || (putS a1 4).1) || (putS b1 4).1) || (putS a2 4).1) || (putS b2 4).1) || (putS a3 4).1) || (putS b3 4).1), up (((((((((out ++ (putS 1 2).2 ++ (putS 6 2).2) ++ (putS a0 4).2) ++ (putS b0 4).2) ++ (putS a1 4).2) ++ (putS b1 4).2) ++ (putS a2 4).2) ++ (putS b2 4).2) ++ (putS a3 4).2) ++ (putS b3 4).2))) ?_).trans ?_
 ·show Option.bind (bund_writer__put_s0 a3 4 x0 x1 x2 x3 x4 x5 x6 x7 x8 x9 x10 x11 x12 x13 x14 x15 x16 (((((((bad || (putS 1 2).1 || (putS 6 2).1) || (putS a0 4).1) || (putS b0 4).1) || (putS a1 4).1) || (putS b1 4).1) || (putS a2 4).1) || (putS b2 4).1) (up (((((((out ++ (putS 1 2).2 ++ (putS 6 2).2) ++ (putS a0 4).2) ++ (putS b0 4).2) ++ (putS a1 4).2) ++ (putS b1 4).2) ++ (putS a2 4).2) ++ (putS b2 4).2))) _ = _
  rw [put4 (by omega) (by simp only [List.length_append]; omega)]
  show Option.bind (bund_writer__put_s0 b3 4 x0 x1 x2 x3 x4 x5 x6 x7 x8 x9 x10 x11 x12 x13 x14 x15 x16 ((((((((bad || (putS 1 2).1 || (putS 6 2).1) || (putS a0 4).1) || (putS b0 4).1) || (putS a1 4).1) || (putS b1 4).1) || (putS a2 4).1) || (putS b2 4).1) || (putS a3 4).1) (up ((((((((out ++ (putS 1 2).2 ++ (putS 6 2).2) ++ (putS a0 4).2) ++ (putS b0 4).2) ++ (putS a1 4).2) ++ (putS b1 4).2) ++ (putS a2 4).2) ++ (putS b2 4).2) ++ (putS a3 4).2))) _ = _
  rw [put4 (by omega) (by simp only [List.length_append]; omega)]; rfl
 refine (loopN_next (n := 18446744073709551611) (s' := ((5 : Int), (((((((((((bad || (putS 1 2).1 || (putS 6 2).1) || (putS a0 4).1) || (putS b0 4).1) || (putS a1 4).1) || (putS b1 4).1) || (putS a2 4).1) || (putS b2 4).1) || (putS a3 4).1) || (putS b3 4).1) || (putS a4 4).1) || (putS b4 4).1), up (((((((((((out ++ (putS 1 2).2 ++ (putS 6 2).2) ++ (putS a0 4).2) ++ (putS b0 4).2) ++ (putS a1 4).2) ++ (putS b1 4).2) ++ (putS a2 4).2) ++ (putS b2 4).2) ++ (putS a3 4).2) ++ (putS b3 4).2) ++ (putS a4 4).2) ++ (putS b4 4).2))) ?_).trans ?_
 ·show Option.bind (bund_writer__put_s0 a4 4 x0 x1 x2 x3 x4 x5 x6 x7 x8 x9 x10 x11 x12 x13 x14 x15 x16 (((((((((bad || (putS 1 2).1 || (putS 6 2).1) || (putS a0 4).1) || (putS b0 4).1) || (putS a1 4).1) || (putS b1 4).1) || (putS a2 4).1) || (putS b2 4).1) || (putS a3 4).1) || (putS b3 4).1) (up (((((((((out ++ (putS 1 2).2 ++ (putS 6 2).2) ++ (putS a0 4).2) ++ (putS b0 4).2) ++ (putS a1 4).2) ++ (putS b1 4).2) ++ (putS a2 4).2) ++ (putS b2 4).2) ++ (putS a3 4).2) ++ (putS b3 4).2))) _ = _
  rw [put4 (by omega) (by simp only [List.length_append]; omega)]
  show Option.bind (bund_writer__put_s0 b4 4 x0 x1 x2 x3 x4 x5 x6 x7 x8 x9 x10 x11 x12 x13 x14 x15 x16 ((((((((((bad || (putS 1 2).1 || (putS 6 2).1) || (putS a0 4).1) || (putS b0 4).1) || (putS a1 4).1) || (putS b1 4).1) || (putS a2 4).1) || (putS b2 4).1) || (putS a3 4).1) || (putS b3 4).1) || (putS a4 4).1) (up ((((((((((out ++ (putS 1 2).2 ++ (putS 6 2).2) ++ (putS a0 4).2) ++ (putS b0 4).2) ++ (putS a1 4).2) ++ (putS b1 4).2) ++ (putS a2 4).2) ++ (putS b2 4).2) ++ (putS a3 4).2) ++ (putS b3 4).2) ++ (putS a4 4).2))) _ = _
  rw [put4 (by omega) (by simp only [List.length_append]; omega)]; rfl
 refine (loopN_next (n := 18446744073709551610) (s' := ((6 : Int), (((((((((((((bad || (putS 1 2).1 || (putS 6 2).1) || (putS a0 4).1) || (putS b0 4).1) || (putS a1 4).1) || (putS b1 4).1) || (putS a2 4).1) || (putS b2 4).1) || (putS a3 4).1) || (putS b3 4).1) || (putS a4 4).1) || (putS b4 4).1) || (putS a5 4).1) || (putS b5 4).1), up (((((((((((((out ++ (putS 1 2).2 ++ (putS 6 2).2) ++ (putS a0 4).2) ++ (putS b0 4).2) ++ (putS a1 4).2) ++ (putS b1 4).2) ++ (putS a2 4).2) ++ (putS b2 4).2) ++ (putS a3 4).2) ++ (putS b3 4).2) ++ (putS a4 4).2) ++ (putS b4 4).2) ++ (putS a5 4).2) ++ (putS b5 4).2))) ?_).trans ?_
 ·show Option.bind (bund_writer__put_s0 a5 4 x0 x1 x2 x3 x4 x5 x6 x7 x8 x9 x10 x11 x12 x13 x14 x15 x16 (((((((((((bad || (putS 1 2).1 || (putS 6 2).1) || (putS a0 4).1) || (putS b0 4).1) || (putS a1 4).1) || (putS b1 4).1) || (putS a2 4).1) || (putS b2 4).1) || (putS a3 4).1) || (putS b3 4).1) || (putS a4 4).1) || (putS b4 4).1) (up (((((((((((out ++ (putS 1 2).2 ++ (putS 6 2).2) ++ (putS a0 4).2) ++ (putS b0 4).2) ++ (putS a1 4).2) ++ (putS b1 4).2) ++ (putS a2 4).2) ++ (putS b2 4).2) ++ (putS a3 4).2) ++ (putS b3 4).2) ++ (putS a4 4).2) ++ (putS b4 4).2))) _ = _
  rw [put4 (by omega) (by simp only [List.length_append]; omega)]
  show Option.bind (bund_writer__put_s0 b5 4 x0 x1 x2 x3 x4 x5 x6 x7 x8 x9 x10 x11 x12 x13 x14 x15 x16 ((((((((((((bad || (putS 1 2).1 || (putS 6 2).1) || (putS a0 4).1) || (putS b0 4).1) || (putS a1 4).1) || (putS b1 4).1) || (putS a2 4).1) || (putS b2 4).1) || (putS a3 4).1) || (putS b3 4).1) || (putS a4 4).1) || (putS b4 4).1) || (putS a5 4).1) (up ((((((((((((out ++ (putS 1 2).2 ++ (putS 6 2).2) ++ (putS a0 4).2) ++ (putS b0 4).2) ++ (putS a1 4).2) ++ (putS b1 4).2) ++ (putS a2 4).2) ++ (putS b2 4).2) ++ (putS a3 4).2) ++ (putS b3 4).2) ++ (putS a4 4).2) ++ (putS b4 4).2) ++ (putS a5 4).2))) _ = _
  rw [put4 (by omega) (by simp only [List.length_append]; omega)]; rfl
 refine (loopN_out (n := 18446744073709551609) rfl).trans ?_
 simp only [IH, List.flatMap_cons, List.flatMap_nil, List.cons_append, List.nil_append, iB_cons, iE_cons, Bool.or_assoc, List.append_assoc]
 simp [iB, iE]
end
def textsL (l : St28) : List Tx := l.Tag_ :: l.Pats_.a0_ :: l.Pats_.a1_ :: l.Pats_.a2_ :: l.Pats_.a3_ :: (l.Rules_.map (fun r => r.Text_) ++ (l.Curs_.flatMap (fun c => [c.Code_, c.Sign_]) ++ l.Comps_.map fun c => c.Pat_))
structure Med (l : St28) : Prop where
 s : ∀ n ∈ [l.S_.Zero_, l.S_.Dec_, l.S_.Group_, l.S_.Minus_, l.S_.Plus_, l.S_.Percent_, l.S_.Exp_], -2147483648 ≤ n ∧ n < 2147483648
 r : l.Rules_.length ≤ 60000 ∧ ∀ r ∈ l.Rules_, -9223372036854775808 ≤ r.Cat_ ∧ r.Cat_ < 9223372036854775808
 c : l.Curs_.length ≤ 60000 ∧ ∀ r ∈ l.Curs_, -9223372036854775808 ≤ r.Digits_ ∧ r.Digits_ < 9223372036854775808
 k : l.Comps_.length ≤ 60000 ∧ ∀ r ∈ l.Comps_, (-9223372036854775808 ≤ r.Mag_ ∧ r.Mag_ < 9223372036854775808) ∧ (-9223372036854775808 ≤ r.Cat_ ∧ r.Cat_ < 9223372036854775808)
theorem flat2_len (cs : List St59) : (cs.flatMap (fun c => [c.Code_, c.Sign_])).length = 2 * cs.length := by
 induction cs with
 | nil => rfl
 | cons c cs ih => simp only [List.flatMap_cons, List.length_append, ih, List.length_cons, List.length_nil]; omega
theorem textsL_len (l : St28) : (textsL l).length = 5 + l.Rules_.length + 2 * l.Curs_.length + l.Comps_.length := by
 unfold textsL
 simp only [List.length_cons, List.length_append, List.length_map, flat2_len]
 omega
theorem texts_eq {x0 : St28} (hm : Med x0) : bund_Texts x0 = some (textsL x0) := by
 have h1 := hm.r.1
 have h2 := hm.c.1
 have h3 := hm.k.1
 unfold bund_Texts
 refine bind_of (fun o => o = [x0.Tag_, x0.Pats_.a0_, x0.Pats_.a1_, x0.Pats_.a2_, x0.Pats_.a3_]) ⟨[x0.Tag_, x0.Pats_.a0_, x0.Pats_.a1_, x0.Pats_.a2_, x0.Pats_.a3_], rfl, rfl⟩ (fun o h => ?_)
 subst h
 generalize A0def : [x0.Tag_, x0.Pats_.a0_, x0.Pats_.a1_, x0.Pats_.a2_, x0.Pats_.a3_] = A0
 have hAl : A0.length = 5 := by rw [← A0def]; rfl
 refine bind_of (fun o => o = A0 ++ x0.Rules_.map fun r => r.Text_) ⟨_, loop_fold x0.Rules_ (fun pre => ((pre.length : Int), A0 ++ pre.map fun r => r.Text_)) _ (by simp [A0def]) (fun pre x suf h => ?_) (by simp only; rw [lt_end]; rfl) (by omega), rfl⟩ (fun o h => ?_)
 ·have hl' : (pre ++ x :: suf).length ≤ 4611686018427387904 := by rw [← h]; omega
  have hpl : pre.length < x0.Rules_.length := by rw [h]; simp
  simp only
  rw [h, lt_mid, inR_mid, nth_mid, w_mid hl', room_of (by simp; omega)]
  simp
 subst h
 generalize hB : A0 ++ x0.Rules_.map (fun r => r.Text_) = B
 have hBl : B.length ≤ 5 + x0.Rules_.length := by rw [← hB]; simp; omega
 refine bind_of (fun o => o = B ++ x0.Curs_.flatMap fun c => [c.Code_, c.Sign_]) ⟨_, loop_fold x0.Curs_ (fun pre => ((pre.length : Int), B ++ pre.flatMap fun c => [c.Code_, c.Sign_])) _ (by simp) (fun pre x suf h => ?_) (by simp only; rw [lt_end]; rfl) (by omega), rfl⟩ (fun o h => ?_)
 ·have hl' : (pre ++ x :: suf).length ≤ 4611686018427387904 := by rw [← h]; omega
  have hpl : pre.length < x0.Curs_.length := by rw [h]; simp
  have hfl := flat2_len pre
  simp only
  rw [h, lt_mid, inR_mid, nth_mid, w_mid hl', room_of (by rw [List.length_append, flat2_len]; simp; omega)]
  simp
 subst h
 generalize hC : B ++ x0.Curs_.flatMap (fun c => [c.Code_, c.Sign_]) = C
 have hCl : C.length ≤ 5 + x0.Rules_.length + 2 * x0.Curs_.length := by rw [← hC, List.length_append, flat2_len]; omega
 refine bind_of (fun o => o = C ++ x0.Comps_.map fun r => r.Pat_) ⟨_, loop_fold x0.Comps_ (fun pre => ((pre.length : Int), C ++ pre.map fun r => r.Pat_)) _ (by simp) (fun pre x suf h => ?_) (by simp only; rw [lt_end]; rfl) (by omega), rfl⟩ (fun o h => ?_)
 ·have hl' : (pre ++ x :: suf).length ≤ 4611686018427387904 := by rw [← h]; omega
  have hpl : pre.length < x0.Comps_.length := by rw [h]; simp
  simp only
  rw [h, lt_mid, inR_mid, nth_mid, w_mid hl', room_of (by simp; omega)]
  simp
 subst h
 rw [← hC, ← hB, ← A0def]
 simp [textsL]
theorem pos_nodup {l : List Tx} (hn : l.Nodup) {j : Nat} {t : Tx} (h : l[j]? = some t) : posOf l t = some j := by
 cases hp : posOf l t with
 | none => exact absurd (List.mem_of_getElem? h) (posOf_none.1 hp)
 | some i =>
  obtain ⟨h1, h2⟩ := posOf_lt hp
  obtain ⟨h3, h4⟩ := List.getElem?_eq_some_iff.1 h
  obtain ⟨_, h5⟩ := List.getElem?_eq_some_iff.1 h2
  have hpw := List.pairwise_iff_getElem.1 hn
  rcases Nat.lt_trichotomy i j with hij | hij | hij
  ·exact absurd (h5.trans h4.symm) (hpw i j h1 h3 hij)
  ·rw [hij]
  ·exact absurd (h4.trans h5.symm) (hpw j i h3 h1 hij)
theorem gat_refs (T : List Tx) : (gat T).2 = T.map fun t => (posOf (gat T).1 t).getD 0 := by
 apply List.ext_getElem?
 intro i
 by_cases hi : i < T.length
 ·obtain ⟨j, h1, h2⟩ := gat_back T i hi
  rw [h1, List.getElem?_map, List.getElem?_eq_getElem hi]
  rw [List.getElem?_eq_getElem hi] at h2
  simp only [Option.map_some]
  rw [pos_nodup (gat_nodup T) h2]; rfl
 ·rw [List.getElem?_eq_none (by rw [(gat_len T).2]; omega), List.getElem?_eq_none (by simp; omega)]
def poolL (l : St28) : List Tx := (gat (textsL l)).1
def placeL (l : St28) (t : Tx) : Nat := (posOf (poolL l) t).getD 0
def signsL (s : St22) : List Int := [s.Zero_, s.Dec_, s.Group_, s.Minus_, s.Plus_, s.Percent_, s.Exp_]
def patsL (l : St28) : List Tx := [l.Pats_.a0_, l.Pats_.a1_, l.Pats_.a2_, l.Pats_.a3_]
def i2 (l : St28) : List (Int × Nat) := I2 (placeL l) l.Tag_ (signsL l.S_)
def i3 (l : St28) : List (Int × Nat) := I3 (placeL l) (patsL l)
def i4 (l : St28) : List (Int × Nat) := I4 (placeL l) l.Rules_.length l.Rules_
def i5 (l : St28) : List (Int × Nat) := I5 (placeL l) l.Curs_.length l.Curs_
def i6 (l : St28) : List (Int × Nat) := I6 (placeL l) l.Comps_.length l.Comps_
def secsL (l : St28) : List (List Nat) := [(putPV [] (poolL l)).1, iE (i2 l), iE (i3 l), iE (i4 l), iE (i5 l), iE (i6 l)]
def tabl : Nat → List (List Nat) → List (Int × Int)
 | _, [] => []
 | i, s :: r => ((i : Int), (s.length : Int)) :: tabl (i + s.length) r
def badL (l : St28) : Bool := !decide (poolP (poolL l)) || iB (i2 l) || iB (i3 l) || iB (i4 l) || iB (i5 l) || iB (i6 l) || iB (IH (tabl 56 (secsL l)))
def bytesL (l : St28) : List Nat := [69, 88, 76, 66] ++ iE (IH (tabl 56 (secsL l))) ++ (secsL l).flatten
def summed (m : List Nat) : List Nat := m ++ tailN (crcN m)
def encV (l : St28) : List Nat × Int := if badL l = true then ([], 1) else (summed (bytesL l), 0)
theorem placeL_lt {l : St28} (hm : Med l) (t : Tx) : placeL l t < 4294967296 := by
 unfold placeL
 have h := (gat_len (textsL l)).1
 rw [textsL_len] at h
 have h1 := hm.r.1
 have h2 := hm.c.1
 have h3 := hm.k.1
 cases hp : posOf (poolL l) t with
 | none => simp
 | some i =>
  have := (posOf_lt hp).1
  unfold poolL at this
  simp only [Option.getD_some]
  omega
theorem s1_len (p : List Tx) : (putPV [] p).1.length ≤ 201002 := by
 unfold putPV
 split
 ·rename_i h
  have := pbytes_len h.2.1
  have := h.1
  simp only [List.nil_append, List.length_append, beN_len]; omega
 ·simp
theorem i2_len (q : Tx → Nat) (t : Tx) (s : St22) : (iE (I2 q t (signsL s))).length ≤ 32 := Nat.le_trans (iE_len fun x hx => by
 simp only [I2, signsL, List.map_cons, List.map_nil, List.mem_cons, List.not_mem_nil, or_false] at hx
 rcases hx with rfl | rfl | rfl | rfl | rfl | rfl | rfl | rfl <;> simp) (by simp [I2, signsL])
theorem i3_len (q : Tx → Nat) (l : St28) : (iE (I3 q (patsL l))).length ≤ 16 := Nat.le_trans (iE_len fun x hx => by
 simp only [I3, patsL, List.map_cons, List.map_nil, List.mem_cons, List.not_mem_nil, or_false] at hx
 rcases hx with rfl | rfl | rfl | rfl <;> simp) (by simp [I3, patsL])
theorem s1_bytes (p : List Tx) : bytesP (putPV [] p).1 := by
 unfold putPV
 split
 ·exact bytes_append (fun _ h => by cases h) (bytes_append (beN_bytes _ _) (pbytes_bytes _))
 ·exact fun _ h => by cases h
theorem tabl_len : ∀ (S : List (List Nat)) (i : Nat), (tabl i S).length = S.length
 | [], _ => rfl
 | s :: S, i => by simp [tabl, tabl_len S]
theorem IH_len (T : List (Int × Int)) : (iE (IH T)).length ≤ 4 * (2 + 2 * T.length) := by
 refine Nat.le_trans (iE_len fun x hx => ?_) ?_
 ·unfold IH at hx
  simp only [List.mem_append, List.mem_cons, List.mem_flatMap, List.not_mem_nil, or_false] at hx
  rcases hx with (rfl | rfl) | ⟨r, _, rfl | rfl⟩ <;> simp
 ·unfold IH
  rw [List.length_append, show (T.flatMap fun r => [(r.1, 4), (r.2, 4)]).length = 2 * T.length from by induction T with
   | nil => rfl
   | cons r rs ih => simp only [List.flatMap_cons, List.length_append, ih, List.length_cons, List.length_nil]; omega]
  simp only [List.length_cons, List.length_nil]; omega
theorem secs_len {l : St28} (hm : Med l) : (secsL l).flatten.length ≤ 3000000 := by
 have h1 := hm.r.1
 have h2 := hm.c.1
 have h3 := hm.k.1
 have g1 := s1_len (poolL l)
 have g2 := i2_len (placeL l) l.Tag_ l.S_
 have g3 := i3_len (placeL l) l
 have g4 := I4_len (placeL l) l.Rules_.length l.Rules_
 have g5 := I5_len (placeL l) l.Curs_.length l.Curs_
 have g6 := I6_len (placeL l) l.Comps_.length l.Comps_
 unfold secsL i2 i3 i4 i5 i6
 simp only [List.flatten_cons, List.flatten_nil, List.length_append, List.length_nil]
 omega
theorem bytesL_len {l : St28} (hm : Med l) : (bytesL l).length ≤ 3000100 := by
 have h1 := secs_len hm
 have h2 := IH_len (tabl 56 (secsL l))
 rw [tabl_len] at h2
 have h3 : (secsL l).length = 6 := rfl
 unfold bytesL
 simp only [List.length_append, List.length_cons, List.length_nil]
 omega
theorem bytesL_bytes (l : St28) : bytesP (bytesL l) := by
 unfold bytesL secsL
 refine bytes_append (bytes_append (fun c hc => ?_) (iE_bytes _)) (fun c hc => ?_)
 ·simp only [List.mem_cons, List.not_mem_nil, or_false] at hc
  omega
 ·simp only [List.flatten_cons, List.flatten_nil, List.mem_append, List.not_mem_nil, or_false] at hc
  rcases hc with hc | hc | hc | hc | hc | hc
  ·exact s1_bytes _ c hc
  all_goals exact iE_bytes _ c hc
theorem wA {out : List Nat} (h : out.length ≤ 4000000000) : IntKind.wrap .i64 (56 + ((up out).length : Int)) = 56 + (out.length : Int) := by rw [up_len, w64 (by omega) (by omega)]
theorem wB {out s : List Nat} (h : (out ++ s).length ≤ 4000000000) : IntKind.wrap .i64 (((up (out ++ s)).length : Int) - ((up out).length : Int)) = (s.length : Int) := by
 rw [List.length_append] at h
 rw [up_len, up_len, List.length_append, w64 (by omega) (by omega)]; omega
theorem encode_eq {l : St28} (hm : Med l) : bund_Encode l = some (up (encV l).1, (encV l).2) := by
 have h1 := hm.r.1
 have h2 := hm.c.1
 have h3 := hm.k.1
 have g1 := s1_len (poolL l)
 have g2 := i2_len (placeL l) l.Tag_ l.S_
 have g3 := i3_len (placeL l) l
 have g4 := I4_len (placeL l) l.Rules_.length l.Rules_
 have g5 := I5_len (placeL l) l.Curs_.length l.Curs_
 have g6 := I6_len (placeL l) l.Comps_.length l.Comps_
 have hq := placeL_lt hm
 have hT := textsL_len l
 have hgl := (gat_len (textsL l)).1
 have hblen := bytesL_len hm
 have hbb := bytesL_bytes l
 unfold encV badL bytesL at *
 unfold bund_Encode bund_newWriter_s0
 rw [texts_eq hm]
 simp only [Option.bind_some]
 rw [gather_eq (by omega)]
 simp only [Option.bind_some]
 rw [gat_refs]
 have hrefs : (textsL l).map (fun t => (posOf (gat (textsL l)).1 t).getD 0) = placeL l l.Tag_ :: placeL l l.Pats_.a0_ :: placeL l l.Pats_.a1_ :: placeL l l.Pats_.a2_ :: placeL l l.Pats_.a3_ :: (l.Rules_.map (fun r => placeL l r.Text_) ++ (l.Curs_.flatMap (fun c => [placeL l c.Code_, placeL l c.Sign_]) ++ (l.Comps_.map (fun c => placeL l c.Pat_) ++ []))) := by
  show (textsL l).map (placeL l) = _
  unfold textsL
  simp [List.map_flatMap, Function.comp_def]
 rw [hrefs]
 clear hrefs
 have hp : poolL l = (gat (textsL l)).1 := rfl
 have hpl : (poolL l).length ≤ 4294967290 := by rw [hp]; omega
 rw [← hp]
 clear hp hgl
 refine bind_of (fun o => o = (up [], ((((((false || !decide (poolP (poolL l))) || iB (i2 l)) || iB (i3 l)) || iB (i4 l)) || iB (i5 l)) || iB (i6 l)), up ((((((([] : List Nat) ++ (putPV [] (poolL l)).1) ++ iE (i2 l)) ++ iE (i3 l)) ++ iE (i4 l)) ++ iE (i5 l)) ++ iE (i6 l)), 56 + ((([] : List Nat)).length : Int), (((putPV [] (poolL l)).1).length : Int), 56 + (((([] : List Nat) ++ (putPV [] (poolL l)).1)).length : Int), ((iE (i2 l)).length : Int), 56 + ((((([] : List Nat) ++ (putPV [] (poolL l)).1) ++ iE (i2 l))).length : Int), ((iE (i3 l)).length : Int), 56 + (((((([] : List Nat) ++ (putPV [] (poolL l)).1) ++ iE (i2 l)) ++ iE (i3 l))).length : Int), ((iE (i4 l)).length : Int), 56 + ((((((([] : List Nat) ++ (putPV [] (poolL l)).1) ++ iE (i2 l)) ++ iE (i3 l)) ++ iE (i4 l))).length : Int), ((iE (i5 l)).length : Int), 56 + (((((((([] : List Nat) ++ (putPV [] (poolL l)).1) ++ iE (i2 l)) ++ iE (i3 l)) ++ iE (i4 l)) ++ iE (i5 l))).length : Int), ((iE (i6 l)).length : Int))) ⟨_, ?_, rfl⟩ (fun o h => ?_)
 ·show loopN _ big (0, up (placeL l l.Tag_ :: (placeL l l.Pats_.a0_ :: placeL l l.Pats_.a1_ :: placeL l l.Pats_.a2_ :: placeL l l.Pats_.a3_ :: (l.Rules_.map (fun r => placeL l r.Text_) ++ (l.Curs_.flatMap (fun c => [placeL l c.Code_, placeL l c.Sign_]) ++ (l.Comps_.map (fun c => placeL l c.Pat_) ++ []))))), false, up [], 0, 0, 0, 0, 0, 0, 0, 0, 0, 0, 0, 0) = _
  have e0 : (((([] : List Nat) ++ (putPV [] (poolL l)).1)).length ≤ 3000000) := by simp only [List.length_append, List.length_nil, i2, i3, i4, i5, i6]; omega
  refine (loopN_next (n := 18446744073709551615) (s' := ((1 : Int), up (placeL l l.Tag_ :: (placeL l l.Pats_.a0_ :: placeL l l.Pats_.a1_ :: placeL l l.Pats_.a2_ :: placeL l l.Pats_.a3_ :: (l.Rules_.map (fun r => placeL l r.Text_) ++ (l.Curs_.flatMap (fun c => [placeL l c.Code_, placeL l c.Sign_]) ++ (l.Comps_.map (fun c => placeL l c.Pat_) ++ []))))), (false || !decide (poolP (poolL l))), up (([] : List Nat) ++ (putPV [] (poolL l)).1), 56 + ((([] : List Nat)).length : Int), (((putPV [] (poolL l)).1).length : Int), 0, 0, 0, 0, 0, 0, 0, 0, 0, 0)) ?_).trans ?_
  ·show Option.bind (bund_writer__words_s1 l.Tag_ l.S_.Zero_ l.S_.Dec_ l.S_.Group_ l.S_.Minus_ l.S_.Plus_ l.S_.Percent_ l.S_.Exp_ l.Pats_.a0_ l.Pats_.a1_ l.Pats_.a2_ l.Pats_.a3_ l.Rules_ l.Curs_ l.Comps_ (poolL l) (up (placeL l l.Tag_ :: (placeL l l.Pats_.a0_ :: placeL l l.Pats_.a1_ :: placeL l l.Pats_.a2_ :: placeL l l.Pats_.a3_ :: (l.Rules_.map (fun r => placeL l r.Text_) ++ (l.Curs_.flatMap (fun c => [placeL l c.Code_, placeL l c.Sign_]) ++ (l.Comps_.map (fun c => placeL l c.Pat_) ++ [])))))) (false) (up ([] : List Nat))) _ = _
   rw [words_eq hpl (by simp)]
   simp only [Option.bind_some]
   rw [wA (out := []) (by simp), wB (by exact Nat.le_trans e0 (by omega))]
   rfl
  have e1 : ((((([] : List Nat) ++ (putPV [] (poolL l)).1) ++ iE (i2 l))).length ≤ 3000000) := by simp only [List.length_append, List.length_nil, i2, i3, i4, i5, i6]; omega
  refine (loopN_next (n := 18446744073709551614) (s' := ((2 : Int), up (placeL l l.Pats_.a0_ :: placeL l l.Pats_.a1_ :: placeL l l.Pats_.a2_ :: placeL l l.Pats_.a3_ :: (l.Rules_.map (fun r => placeL l r.Text_) ++ (l.Curs_.flatMap (fun c => [placeL l c.Code_, placeL l c.Sign_]) ++ (l.Comps_.map (fun c => placeL l c.Pat_) ++ [])))), ((false || !decide (poolP (poolL l))) || iB (i2 l)), up ((([] : List Nat) ++ (putPV [] (poolL l)).1) ++ iE (i2 l)), 56 + ((([] : List Nat)).length : Int), (((putPV [] (poolL l)).1).length : Int), 56 + (((([] : List Nat) ++ (putPV [] (poolL l)).1)).length : Int), ((iE (i2 l)).length : Int), 0, 0, 0, 0, 0, 0, 0, 0)) ?_).trans ?_
  ·show Option.bind (bund_writer__names_s0 l.Tag_ l.S_.Zero_ l.S_.Dec_ l.S_.Group_ l.S_.Minus_ l.S_.Plus_ l.S_.Percent_ l.S_.Exp_ l.Pats_.a0_ l.Pats_.a1_ l.Pats_.a2_ l.Pats_.a3_ l.Rules_ l.Curs_ l.Comps_ (poolL l) (up (placeL l l.Tag_ :: (placeL l l.Pats_.a0_ :: placeL l l.Pats_.a1_ :: placeL l l.Pats_.a2_ :: placeL l l.Pats_.a3_ :: (l.Rules_.map (fun r => placeL l r.Text_) ++ (l.Curs_.flatMap (fun c => [placeL l c.Code_, placeL l c.Sign_]) ++ (l.Comps_.map (fun c => placeL l c.Pat_) ++ [])))))) ((false || !decide (poolP (poolL l)))) (up (([] : List Nat) ++ (putPV [] (poolL l)).1))) _ = _
   rw [names_eq hq hm.s (by simp only [List.length_append, List.length_nil, i2, i3, i4, i5, i6]; omega)]
   simp only [Option.bind_some]
   rw [cut1]
   rw [wA (by exact Nat.le_trans e0 (by omega)), wB (by exact Nat.le_trans e1 (by omega))]
   rfl
  have e2 : (((((([] : List Nat) ++ (putPV [] (poolL l)).1) ++ iE (i2 l)) ++ iE (i3 l))).length ≤ 3000000) := by simp only [List.length_append, List.length_nil, i2, i3, i4, i5, i6]; omega
  refine (loopN_next (n := 18446744073709551613) (s' := ((3 : Int), up (l.Rules_.map (fun r => placeL l r.Text_) ++ (l.Curs_.flatMap (fun c => [placeL l c.Code_, placeL l c.Sign_]) ++ (l.Comps_.map (fun c => placeL l c.Pat_) ++ []))), (((false || !decide (poolP (poolL l))) || iB (i2 l)) || iB (i3 l)), up (((([] : List Nat) ++ (putPV [] (poolL l)).1) ++ iE (i2 l)) ++ iE (i3 l)), 56 + ((([] : List Nat)).length : Int), (((putPV [] (poolL l)).1).length : Int), 56 + (((([] : List Nat) ++ (putPV [] (poolL l)).1)).length : Int), ((iE (i2 l)).length : Int), 56 + ((((([] : List Nat) ++ (putPV [] (poolL l)).1) ++ iE (i2 l))).length : Int), ((iE (i3 l)).length : Int), 0, 0, 0, 0, 0, 0)) ?_).trans ?_
  ·show Option.bind (bund_writer__patterns_s0 l.Tag_ l.S_.Zero_ l.S_.Dec_ l.S_.Group_ l.S_.Minus_ l.S_.Plus_ l.S_.Percent_ l.S_.Exp_ l.Pats_.a0_ l.Pats_.a1_ l.Pats_.a2_ l.Pats_.a3_ l.Rules_ l.Curs_ l.Comps_ (poolL l) (up (placeL l l.Pats_.a0_ :: placeL l l.Pats_.a1_ :: placeL l l.Pats_.a2_ :: placeL l l.Pats_.a3_ :: (l.Rules_.map (fun r => placeL l r.Text_) ++ (l.Curs_.flatMap (fun c => [placeL l c.Code_, placeL l c.Sign_]) ++ (l.Comps_.map (fun c => placeL l c.Pat_) ++ []))))) (((false || !decide (poolP (poolL l))) || iB (i2 l))) (up ((([] : List Nat) ++ (putPV [] (poolL l)).1) ++ iE (i2 l)))) _ = _
   rw [pats_eq hq (by simp only [List.length_append, List.length_nil, i2, i3, i4, i5, i6]; omega)]
   simp only [Option.bind_some]
   rw [wA (by exact Nat.le_trans e1 (by omega)), wB (by exact Nat.le_trans e2 (by omega))]
   rfl
  have e3 : ((((((([] : List Nat) ++ (putPV [] (poolL l)).1) ++ iE (i2 l)) ++ iE (i3 l)) ++ iE (i4 l))).length ≤ 3000000) := by simp only [List.length_append, List.length_nil, i2, i3, i4, i5, i6]; omega
  refine (loopN_next (n := 18446744073709551612) (s' := ((4 : Int), up (l.Curs_.flatMap (fun c => [placeL l c.Code_, placeL l c.Sign_]) ++ (l.Comps_.map (fun c => placeL l c.Pat_) ++ [])), ((((false || !decide (poolP (poolL l))) || iB (i2 l)) || iB (i3 l)) || iB (i4 l)), up ((((([] : List Nat) ++ (putPV [] (poolL l)).1) ++ iE (i2 l)) ++ iE (i3 l)) ++ iE (i4 l)), 56 + ((([] : List Nat)).length : Int), (((putPV [] (poolL l)).1).length : Int), 56 + (((([] : List Nat) ++ (putPV [] (poolL l)).1)).length : Int), ((iE (i2 l)).length : Int), 56 + ((((([] : List Nat) ++ (putPV [] (poolL l)).1) ++ iE (i2 l))).length : Int), ((iE (i3 l)).length : Int), 56 + (((((([] : List Nat) ++ (putPV [] (poolL l)).1) ++ iE (i2 l)) ++ iE (i3 l))).length : Int), ((iE (i4 l)).length : Int), 0, 0, 0, 0)) ?_).trans ?_
  ·show Option.bind (bund_writer__rules_s0 l.Tag_ l.S_.Zero_ l.S_.Dec_ l.S_.Group_ l.S_.Minus_ l.S_.Plus_ l.S_.Percent_ l.S_.Exp_ l.Pats_.a0_ l.Pats_.a1_ l.Pats_.a2_ l.Pats_.a3_ l.Rules_ l.Curs_ l.Comps_ (poolL l) (up (l.Rules_.map (fun r => placeL l r.Text_) ++ (l.Curs_.flatMap (fun c => [placeL l c.Code_, placeL l c.Sign_]) ++ (l.Comps_.map (fun c => placeL l c.Pat_) ++ [])))) ((((false || !decide (poolP (poolL l))) || iB (i2 l)) || iB (i3 l))) (up (((([] : List Nat) ++ (putPV [] (poolL l)).1) ++ iE (i2 l)) ++ iE (i3 l)))) _ = _
   rw [rules_eq hq (by omega) hm.r.2 (by simp only [List.length_append, List.length_nil, i2, i3, i4, i5, i6]; omega)]
   simp only [Option.bind_some]
   rw [wA (by exact Nat.le_trans e2 (by omega)), wB (by exact Nat.le_trans e3 (by omega))]
   rfl
  have e4 : (((((((([] : List Nat) ++ (putPV [] (poolL l)).1) ++ iE (i2 l)) ++ iE (i3 l)) ++ iE (i4 l)) ++ iE (i5 l))).length ≤ 3000000) := by simp only [List.length_append, List.length_nil, i2, i3, i4, i5, i6]; omega
  refine (loopN_next (n := 18446744073709551611) (s' := ((5 : Int), up (l.Comps_.map (fun c => placeL l c.Pat_) ++ []), (((((false || !decide (poolP (poolL l))) || iB (i2 l)) || iB (i3 l)) || iB (i4 l)) || iB (i5 l)), up (((((([] : List Nat) ++ (putPV [] (poolL l)).1) ++ iE (i2 l)) ++ iE (i3 l)) ++ iE (i4 l)) ++ iE (i5 l)), 56 + ((([] : List Nat)).length : Int), (((putPV [] (poolL l)).1).length : Int), 56 + (((([] : List Nat) ++ (putPV [] (poolL l)).1)).length : Int), ((iE (i2 l)).length : Int), 56 + ((((([] : List Nat) ++ (putPV [] (poolL l)).1) ++ iE (i2 l))).length : Int), ((iE (i3 l)).length : Int), 56 + (((((([] : List Nat) ++ (putPV [] (poolL l)).1) ++ iE (i2 l)) ++ iE (i3 l))).length : Int), ((iE (i4 l)).length : Int), 56 + ((((((([] : List Nat) ++ (putPV [] (poolL l)).1) ++ iE (i2 l)) ++ iE (i3 l)) ++ iE (i4 l))).length : Int), ((iE (i5 l)).length : Int), 0, 0)) ?_).trans ?_
  ·show Option.bind (bund_writer__currencies_s0 l.Tag_ l.S_.Zero_ l.S_.Dec_ l.S_.Group_ l.S_.Minus_ l.S_.Plus_ l.S_.Percent_ l.S_.Exp_ l.Pats_.a0_ l.Pats_.a1_ l.Pats_.a2_ l.Pats_.a3_ l.Rules_ l.Curs_ l.Comps_ (poolL l) (up (l.Curs_.flatMap (fun c => [placeL l c.Code_, placeL l c.Sign_]) ++ (l.Comps_.map (fun c => placeL l c.Pat_) ++ []))) (((((false || !decide (poolP (poolL l))) || iB (i2 l)) || iB (i3 l)) || iB (i4 l))) (up ((((([] : List Nat) ++ (putPV [] (poolL l)).1) ++ iE (i2 l)) ++ iE (i3 l)) ++ iE (i4 l)))) _ = _
   rw [curs_eq hq (by omega) hm.c.2 (by simp only [List.length_append, List.length_nil, i2, i3, i4, i5, i6]; omega)]
   simp only [Option.bind_some]
   rw [wA (by exact Nat.le_trans e3 (by omega)), wB (by exact Nat.le_trans e4 (by omega))]
   rfl
  have e5 : ((((((((([] : List Nat) ++ (putPV [] (poolL l)).1) ++ iE (i2 l)) ++ iE (i3 l)) ++ iE (i4 l)) ++ iE (i5 l)) ++ iE (i6 l))).length ≤ 3000000) := by simp only [List.length_append, List.length_nil, i2, i3, i4, i5, i6]; omega
  refine (loopN_next (n := 18446744073709551610) (s' := ((6 : Int), up [], ((((((false || !decide (poolP (poolL l))) || iB (i2 l)) || iB (i3 l)) || iB (i4 l)) || iB (i5 l)) || iB (i6 l)), up ((((((([] : List Nat) ++ (putPV [] (poolL l)).1) ++ iE (i2 l)) ++ iE (i3 l)) ++ iE (i4 l)) ++ iE (i5 l)) ++ iE (i6 l)), 56 + ((([] : List Nat)).length : Int), (((putPV [] (poolL l)).1).length : Int), 56 + (((([] : List Nat) ++ (putPV [] (poolL l)).1)).length : Int), ((iE (i2 l)).length : Int), 56 + ((((([] : List Nat) ++ (putPV [] (poolL l)).1) ++ iE (i2 l))).length : Int), ((iE (i3 l)).length : Int), 56 + (((((([] : List Nat) ++ (putPV [] (poolL l)).1) ++ iE (i2 l)) ++ iE (i3 l))).length : Int), ((iE (i4 l)).length : Int), 56 + ((((((([] : List Nat) ++ (putPV [] (poolL l)).1) ++ iE (i2 l)) ++ iE (i3 l)) ++ iE (i4 l))).length : Int), ((iE (i5 l)).length : Int), 56 + (((((((([] : List Nat) ++ (putPV [] (poolL l)).1) ++ iE (i2 l)) ++ iE (i3 l)) ++ iE (i4 l)) ++ iE (i5 l))).length : Int), ((iE (i6 l)).length : Int))) ?_).trans ?_
  ·show Option.bind (bund_writer__compacts_s0 l.Tag_ l.S_.Zero_ l.S_.Dec_ l.S_.Group_ l.S_.Minus_ l.S_.Plus_ l.S_.Percent_ l.S_.Exp_ l.Pats_.a0_ l.Pats_.a1_ l.Pats_.a2_ l.Pats_.a3_ l.Rules_ l.Curs_ l.Comps_ (poolL l) (up (l.Comps_.map (fun c => placeL l c.Pat_) ++ [])) ((((((false || !decide (poolP (poolL l))) || iB (i2 l)) || iB (i3 l)) || iB (i4 l)) || iB (i5 l))) (up (((((([] : List Nat) ++ (putPV [] (poolL l)).1) ++ iE (i2 l)) ++ iE (i3 l)) ++ iE (i4 l)) ++ iE (i5 l)))) _ = _
   rw [comps_eq hq (by omega) hm.k.2 (by simp only [List.length_append, List.length_nil, i2, i3, i4, i5, i6]; omega)]
   simp only [Option.bind_some]
   rw [wA (by exact Nat.le_trans e4 (by omega)), wB (by exact Nat.le_trans e5 (by omega))]
   rfl
  exact loopN_out (n := 18446744073709551609) rfl
 subst h
 simp only
 have hsec := secs_len hm
 have hfl : ((((((([] : List Nat) ++ (putPV [] (poolL l)).1) ++ iE (i2 l)) ++ iE (i3 l)) ++ iE (i4 l)) ++ iE (i5 l)) ++ iE (i6 l)) = (secsL l).flatten := by simp [secsL]
 have htab : [(56 + ((([] : List Nat)).length : Int), (((putPV [] (poolL l)).1).length : Int)), (56 + (((([] : List Nat) ++ (putPV [] (poolL l)).1)).length : Int), ((iE (i2 l)).length : Int)), (56 + ((((([] : List Nat) ++ (putPV [] (poolL l)).1) ++ iE (i2 l))).length : Int), ((iE (i3 l)).length : Int)), (56 + (((((([] : List Nat) ++ (putPV [] (poolL l)).1) ++ iE (i2 l)) ++ iE (i3 l))).length : Int), ((iE (i4 l)).length : Int)), (56 + ((((((([] : List Nat) ++ (putPV [] (poolL l)).1) ++ iE (i2 l)) ++ iE (i3 l)) ++ iE (i4 l))).length : Int), ((iE (i5 l)).length : Int)), (56 + (((((((([] : List Nat) ++ (putPV [] (poolL l)).1) ++ iE (i2 l)) ++ iE (i3 l)) ++ iE (i4 l)) ++ iE (i5 l))).length : Int), ((iE (i6 l)).length : Int))] = tabl 56 (secsL l) := by
  simp only [tabl, secsL, List.length_append, List.length_nil, List.nil_append]
  simp only [List.cons.injEq, Prod.mk.injEq, and_true]
  refine ⟨?_, ?_, ?_, ?_, ?_, ?_⟩ <;> omega
 rw [hfl]
 rw [show ([69, 88, 76, 66] : List Int) = up [69, 88, 76, 66] from rfl, head_eq (fun n hn => by
  unfold secsL at hsec
  simp only [List.flatten_cons, List.flatten_nil, List.length_append, List.length_nil] at hsec
  simp only [List.mem_cons, List.not_mem_nil, or_false, List.length_append, List.length_nil] at hn
  rcases hn with rfl | rfl | rfl | rfl | rfl | rfl | rfl | rfl | rfl | rfl | rfl | rfl <;> omega) (by simp), htab]
 simp only [Option.bind_some, Bool.false_or]
 generalize (!decide (poolP (poolL l)) || iB (i2 l) || iB (i3 l) || iB (i4 l) || iB (i5 l) || iB (i6 l) || iB (IH (tabl 56 (secsL l)))) = bd
 cases bd with
 | true => rfl
 | false =>
  simp only [cond_false, Bool.false_eq_true, if_false]
  rw [← up_append, room_of (by rw [up_len, up_len]; rw [List.length_append] at hblen; omega)]
  simp only [cond_true]
  rw [cput_eq hbb (by omega)]; rfl
theorem bif_or (a b : Bool) : (bif a then some true else some b) = some (a || b) := by cases a <;> rfl
def bt (n : Int) : Bool := decide (0 ≤ n) && decide (n ≤ 255)
def okL (l : St28) : Bool := (signsL l.S_).all (fun n => decide (0 ≤ n)) && (l.Rules_.all (fun r => bt r.Cat_) && (l.Curs_.all (fun c => bt c.Digits_) && l.Comps_.all (fun c => bt c.Mag_ && bt c.Cat_)))
theorem bt_iff {n : Int} : bt n = true ↔ 0 ≤ n ∧ n ≤ 255 := by simp [bt]
theorem put1_bt (n : Int) : (putS n 1).1 = !bt n := by
 cases hb : bt n with
 | true => rw [bt_iff] at hb; rw [putS_fit (by omega) (by omega) (by omega)]; rfl
 | false =>
  have : ¬ (0 ≤ n ∧ n ≤ 255) := fun h => by rw [bt_iff.2 h] at hb; cases hb
  rw [putS_bad (by omega)]; rfl
theorem put4_nn {n : Int} (h : n < 4294967296) : (putS n 4).1 = !decide (0 ≤ n) := by
 by_cases h0 : 0 ≤ n
 ·rw [putS_fit h0 (by omega) (by omega), dT h0]; rfl
 ·rw [putS_bad (by omega), dF h0]; rfl
theorem put2_fit {n : Int} (h0 : 0 ≤ n) (h : n < 65536) : putS n 2 = (false, beN n.toNat 2) := putS_fit h0 (by omega) (by omega)
theorem place_small {l : St28} (hp : poolP (poolL l)) (t : Tx) : placeL l t < 65536 := by
 unfold placeL
 cases hq : posOf (poolL l) t with
 | none => simp
 | some i =>
  have := (posOf_lt hq).1
  have := hp.1
  simp only [Option.getD_some]; omega
theorem iB_flat {T : Type} (f : T → List (Int × Nat)) (xs : List T) : iB (xs.flatMap f) = xs.any fun x => iB (f x) := by
 induction xs with
 | nil => rfl
 | cons x xs ih => rw [List.flatMap_cons, iB_app, ih]; rfl
theorem any_not {T : Type} (p : T → Bool) (xs : List T) : (xs.any fun x => !p x) = !xs.all p := by
 induction xs with
 | nil => rfl
 | cons x xs ih => rw [List.any_cons, ih, List.all_cons, Bool.not_and]
theorem tabl_fit : ∀ (S : List (List Nat)) (i : Nat), i + S.flatten.length < 4294967296 → ∀ r ∈ tabl i S, (0 ≤ r.1 ∧ r.1 < 4294967296) ∧ (0 ≤ r.2 ∧ r.2 < 4294967296)
 | [], _, _, r, hr => by cases hr
 | s :: S, i, h, r, hr => by
  rw [List.flatten_cons, List.length_append] at h
  rcases List.mem_cons.1 hr with rfl | hr
  ·simp only; omega
  ·exact tabl_fit S (i + s.length) (by omega) r hr
theorem badL_eq {l : St28} (hm : Med l) : badL l = !(decide (poolP (poolL l)) && okL l) := by
 have h1 := hm.r.1
 have h2 := hm.c.1
 have h3 := hm.k.1
 unfold badL
 by_cases hp : poolP (poolL l)
 ·have hq := fun t => place_small hp t
  have hq2 : ∀ t, (putS (placeL l t : Int) 2).1 = false := fun t => by have := hq t; rw [put2_fit (by omega) (by omega)]
  have e2 : iB (i2 l) = !(signsL l.S_).all (fun n => decide (0 ≤ n)) := by
   unfold i2 I2
   rw [iB_cons, hq2, Bool.false_or]
   have hs := hm.s
   change ∀ n ∈ signsL l.S_, _ at hs
   revert hs
   generalize signsL l.S_ = s
   intro hs
   induction s with
   | nil => rfl
   | cons n s ih =>
    have hn := hs n (List.mem_cons_self ..)
    rw [List.map_cons, iB_cons, ih (fun x hx => hs x (List.mem_cons_of_mem _ hx)), put4_nn (by omega), List.all_cons, Bool.not_and]
  have e3 : iB (i3 l) = false := by
   unfold i3 I3
   rw [iB, List.any_eq_false]
   intro x hx
   obtain ⟨t, _, rfl⟩ := List.mem_map.1 hx
   simp only [hq2]; simp
  have e4 : iB (i4 l) = !l.Rules_.all (fun r => bt r.Cat_) := by
   unfold i4 I4
   rw [iB_cons, put2_fit (by omega) (by omega), Bool.false_or, iB_flat, ← any_not]
   refine congrArg _ (funext fun r => ?_)
   simp only [iB_cons, hq2, put1_bt]; simp [iB]
  have e5 : iB (i5 l) = !l.Curs_.all (fun r => bt r.Digits_) := by
   unfold i5 I5
   rw [iB_cons, put2_fit (by omega) (by omega), Bool.false_or, iB_flat, ← any_not]
   refine congrArg _ (funext fun r => ?_)
   simp only [iB_cons, hq2, put1_bt]; simp [iB]
  have e6 : iB (i6 l) = !l.Comps_.all (fun c => bt c.Mag_ && bt c.Cat_) := by
   unfold i6 I6
   rw [iB_cons, put2_fit (by omega) (by omega), Bool.false_or, iB_flat, ← any_not]
   refine congrArg _ (funext fun r => ?_)
   simp only [iB_cons, hq2, put1_bt]; simp [iB]
  have e7 : iB (IH (tabl 56 (secsL l))) = false := by
   have hf := tabl_fit (secsL l) 56 (by have := secs_len hm; omega)
   revert hf
   generalize tabl 56 (secsL l) = T
   intro hf
   unfold IH
   rw [iB_app, iB_flat]
   have : (T.any fun x => iB [(x.1, 4), (x.2, 4)]) = false := by
    rw [List.any_eq_false]
    intro x hx
    obtain ⟨⟨a1, a2⟩, b1, b2⟩ := hf x hx
    simp only [iB_cons, put4_nn a2, put4_nn b2, dT a1, dT b1]; simp [iB]
   rw [this]; rfl
  rw [e2, e3, e4, e5, e6, e7, dT hp]
  unfold okL
  simp only [Bool.not_true, Bool.false_or, Bool.or_false, Bool.true_and, Bool.not_and, Bool.or_assoc]
 ·rw [dF hp]; simp
theorem encV_eq {l : St28} (hm : Med l) : encV l = if poolP (poolL l) ∧ okL l = true then (summed (bytesL l), 0) else ([], 1) := by
 unfold encV
 rw [badL_eq hm]
 by_cases hp : poolP (poolL l)
 ·rw [dT hp]
  cases ho : okL l with
  | true => rw [if_neg (by simp), if_pos ⟨hp, rfl⟩]
  | false => rw [if_pos (by rfl), if_neg (fun h => by cases h.2)]
 ·rw [dF hp, if_pos (by rfl), if_neg (fun h => hp h.1)]
/-! The document's way to put. -/
structure Ok (l : St28) : Prop where
 m : Med l
 p : poolP (poolL l)
 s : ∀ n ∈ signsL l.S_, 0 ≤ n
 r : ∀ r ∈ l.Rules_, bt r.Cat_ = true
 c : ∀ c ∈ l.Curs_, bt c.Digits_ = true
 k : ∀ c ∈ l.Comps_, bt c.Mag_ = true ∧ bt c.Cat_ = true
theorem Ok.of {l : St28} (hm : Med l) (hp : poolP (poolL l)) (ho : okL l = true) : Ok l := by
 unfold okL at ho
 simp only [Bool.and_eq_true, List.all_eq_true] at ho
 exact ⟨hm, hp, fun n hn => of_decide_eq_true (ho.1 n hn), ho.2.1, ho.2.2.1, ho.2.2.2⟩
/-! What is read. -/
def tkN (b : List Nat) (k i : Nat) : Option (Nat × Nat) := if i + k ≤ b.length then some (valN ((b.drop i).take k), i + k) else none
theorem tkN_le {b : List Nat} {k i n j : Nat} (h : tkN b k i = some (n, j)) : i + k = j ∧ j ≤ b.length := by
 unfold tkN at h
 split at h
 ·cases h; exact ⟨rfl, by assumption⟩
 ·cases h
theorem tkN_lt {b : List Nat} (hb : bytesP b) {k i n j : Nat} (hk : k ≤ 4) (h : tkN b k i = some (n, j)) : n < 4294967296 := by
 unfold tkN at h
 split at h
 ·cases h
  have h1 := valN_lt (bytes_take (bytes_drop hb i) k)
  have h2 : ((b.drop i).take k).length ≤ 4 := by rw [List.length_take]; omega
  have : 256 ^ ((b.drop i).take k).length ≤ 256 ^ 4 := Nat.pow_le_pow_right (by decide) h2
  omega
 ·cases h
def txN (b : List Nat) (p : List Tx) (i : Nat) : Option (Tx × Nat) := match tkN b 2 i with
 | some (n, j) => match p[n]? with
  | some t => some (t, j)
  | none => none
 | none => none
theorem txN_le {b : List Nat} {p : List Tx} {i j : Nat} {t : Tx} (h : txN b p i = some (t, j)) : i + 2 = j ∧ j ≤ b.length := by
 unfold txN at h
 split at h
 ·rename_i n j' h1
  split at h
  ·cases h; exact tkN_le h1
  ·cases h
 ·cases h
def txE (b : List Nat) (i : Nat) : Int := match tkN b 2 i with
 | some (n, j) => (j : Int)
 | none => (i : Int)
def sgN (b : List Nat) (i : Nat) : Option (Int × Nat) := match tkN b 4 i with
 | some (n, j) => some (IntKind.wrap .i32 (n : Int), j)
 | none => none
theorem sgN_le {b : List Nat} {i j : Nat} {n : Int} (h : sgN b i = some (n, j)) : i + 4 = j ∧ j ≤ b.length := by
 unfold sgN at h
 split at h
 ·rename_i n j' h1
  cases h; exact tkN_le h1
 ·cases h
section
variable {b : List Nat} {p : List Tx} {i : Nat}
theorem take_r (hb : bytesP b) (hl : b.length ≤ 140737488355328) {k : Nat} (hk : sz k) (hi : i ≤ b.length) :
  bund_reader__take_s0 (k : Int) (up b) (i : Int) p = some (match tkN b k i with | some (n, j) => .inl ((n : Int), (j : Int)) | none => .inr ()) := by
 unfold bund_reader__take_s0
 have hk4 := sz_le hk
 rw [take_eq hb hl (by omega) (by omega)]
 unfold takeV
 rw [if_neg (by rintro (g | g | g) <;> first | exact g hk | omega)]
 cases ht : tkN b k i with
 | none =>
  unfold tkN at ht
  split at ht
  ·cases ht
  ·rw [if_pos (by omega)]; rfl
 | some q =>
  obtain ⟨n, j⟩ := q
  have hlt := tkN_lt hb hk4.2 ht
  unfold tkN at ht
  split at ht
  ·cases ht
   rw [if_neg (by omega)]
   simp only [Int.toNat_natCast, Option.bind_some]
   show Option.bind (some (Sum.inl ())) _ = _
   simp only [Option.bind_some, Sum.elim_inl]
   rw [w64 (by omega) (by omega)]; simp
  ·cases ht
theorem take_r1 (hb : bytesP b) (hl : b.length ≤ 140737488355328) (hi : i ≤ b.length) : bund_reader__take_s0 1 (up b) (i : Int) p = some (match tkN b 1 i with | some (n, j) => .inl ((n : Int), (j : Int)) | none => .inr ()) := take_r hb hl (k := 1) (.inl rfl) hi
theorem take_r2 (hb : bytesP b) (hl : b.length ≤ 140737488355328) (hi : i ≤ b.length) : bund_reader__take_s0 2 (up b) (i : Int) p = some (match tkN b 2 i with | some (n, j) => .inl ((n : Int), (j : Int)) | none => .inr ()) := take_r hb hl (k := 2) (.inr (.inl rfl)) hi
theorem take_r4 (hb : bytesP b) (hl : b.length ≤ 140737488355328) (hi : i ≤ b.length) : bund_reader__take_s0 4 (up b) (i : Int) p = some (match tkN b 4 i with | some (n, j) => .inl ((n : Int), (j : Int)) | none => .inr ()) := take_r hb hl (k := 4) (.inr (.inr rfl)) hi
theorem text_r (hb : bytesP b) (hl : b.length ≤ 140737488355328) (hi : i ≤ b.length) :
  bund_reader__text_s0 (up b) (i : Int) p = some (match txN b p i with | some (t, j) => .inl (t, (j : Int)) | none => .inr (txE b i)) := by
 unfold bund_reader__text_s0 txN txE
 rw [take_r2 hb hl hi]
 cases ht : tkN b 2 i with
 | none => rfl
 | some q =>
  obtain ⟨n, j⟩ := q
  simp only [Option.bind_some, Sum.elim_inl]
  rw [spread_eq (by simp)]
  unfold sprV okR
  by_cases hn : n < p.length
  ·rw [List.getElem?_eq_getElem hn, if_pos (by simp [hn])]
   simp only [Option.bind_some, List.map_cons, List.map_nil]
   show Option.bind (some (Sum.inl ())) _ = _
   simp only [Option.bind_some, Sum.elim_inl]
   rw [nth_nat hn]; rfl
  ·rw [List.getElem?_eq_none (by omega), if_neg (by simp [hn])]; rfl
theorem sign_r (hb : bytesP b) (hl : b.length ≤ 140737488355328) (hi : i ≤ b.length) :
  bund_reader__sign_s0 (up b) (i : Int) p = some (match sgN b i with | some (n, j) => .inl (n, (j : Int)) | none => .inr ()) := by
 unfold bund_reader__sign_s0 sgN
 rw [take_r4 hb hl hi]
 cases ht : tkN b 4 i with
 | none => rfl
 | some q => rfl
end
def rMany {T : Type} (f : Nat → Option (T × Nat)) (i : Nat) : Nat → Option (List T × Nat)
 | 0 => some ([], i)
 | m + 1 => match rMany f i m with
  | some (xs, j) => match f j with
   | some (x, k) => some (xs ++ [x], k)
   | none => none
  | none => none
theorem rMany_s {T : Type} {f : Nat → Option (T × Nat)} {i m : Nat} {xs : List T} {j : Nat} (h : rMany f i m = some (xs, j)) : rMany f i (m + 1) = match f j with | some (x, k) => some (xs ++ [x], k) | none => none := by rw [rMany.eq_2, h]
theorem rMany_none {T : Type} {f : Nat → Option (T × Nat)} {i m : Nat} (h : rMany f i m = none) : ∀ k, rMany f i (m + k) = none
 | 0 => h
 | k + 1 => by
  show rMany f i ((m + k) + 1) = none
  unfold rMany
  rw [rMany_none h k]
theorem rMany_le {T : Type} {f : Nat → Option (T × Nat)} {L : Nat} (hf : ∀ j x k, f j = some (x, k) → j < k ∧ k ≤ L) {i : Nat} (hi : i ≤ L) : ∀ (m : Nat) {xs : List T} {j : Nat}, rMany f i m = some (xs, j) → i + xs.length ≤ j ∧ j ≤ L ∧ xs.length = m
 | 0, xs, j, h => by cases h; simp; exact hi
 | m + 1, xs, j, h => by
  unfold rMany at h
  split at h
  ·rename_i xs' j' h1
   split at h
   ·rename_i x k h2
    cases h
    have h3 := rMany_le hf hi m h1
    have h4 := hf _ _ _ h2
    simp only [List.length_append, List.length_cons, List.length_nil]
    omega
   ·cases h
  ·cases h
theorem rMany_all {T : Type} {f : Nat → Option (T × Nat)} {P : T → Prop} (hf : ∀ j x k, f j = some (x, k) → P x) {i : Nat} : ∀ (m : Nat) {xs : List T} {j : Nat}, rMany f i m = some (xs, j) → ∀ x ∈ xs, P x
 | 0, xs, j, h => by cases h; simp
 | m + 1, xs, j, h => by
  unfold rMany at h
  split at h
  ·rename_i xs' j' h1
   split at h
   ·rename_i x k h2
    cases h
    intro y hy
    rcases List.mem_append.1 hy with hy | hy
    ·exact rMany_all hf m h1 y hy
    ·simp only [List.mem_cons, List.not_mem_nil, or_false] at hy
     subst hy; exact hf _ _ _ h2
   ·cases h
  ·cases h
def ruleR (b : List Nat) (p : List Tx) (i : Nat) : Option (St57 × Nat) := match tkN b 1 i with
 | some (c, j) => match txN b p j with
  | some (t, k) => some (⟨(c : Int), t⟩, k)
  | none => none
 | none => none
def curR (b : List Nat) (p : List Tx) (i : Nat) : Option (St59 × Nat) := match txN b p i with
 | some (s, j) => match txN b p j with
  | some (t, k) => match tkN b 1 k with
   | some (d, q) => some (⟨s, t, (d : Int)⟩, q)
   | none => none
  | none => none
 | none => none
def compR (b : List Nat) (p : List Tx) (i : Nat) : Option (St61 × Nat) := match tkN b 1 i with
 | some (c, j) => match tkN b 1 j with
  | some (d, k) => match txN b p k with
   | some (t, q) => some (⟨(c : Int), (d : Int), t⟩, q)
   | none => none
  | none => none
 | none => none
theorem ruleR_le {b : List Nat} {p : List Tx} : ∀ i x j, ruleR b p i = some (x, j) → i < j ∧ j ≤ b.length := fun i x j h => by
 unfold ruleR at h
 split at h
 ·rename_i c j1 h1
  split at h
  ·rename_i t k h2
   cases h
   have := tkN_le h1
   have := txN_le h2
   omega
  ·cases h
 ·cases h
theorem curR_le {b : List Nat} {p : List Tx} : ∀ i x j, curR b p i = some (x, j) → i < j ∧ j ≤ b.length := fun i x j h => by
 unfold curR at h
 split at h
 ·rename_i c j1 h1
  split at h
  ·rename_i t k h2
   split at h
   ·rename_i d q h3
    cases h
    have := txN_le h1
    have := txN_le h2
    have := tkN_le h3
    omega
   ·cases h
  ·cases h
 ·cases h
theorem compR_le {b : List Nat} {p : List Tx} : ∀ i x j, compR b p i = some (x, j) → i < j ∧ j ≤ b.length := fun i x j h => by
 unfold compR at h
 split at h
 ·rename_i c j1 h1
  split at h
  ·rename_i t k h2
   split at h
   ·rename_i d q h3
    cases h
    have := tkN_le h1
    have := tkN_le h2
    have := txN_le h3
    omega
   ·cases h
  ·cases h
 ·cases h
def patsR (b : List Nat) (p : List Tx) (i : Nat) : Option (St24 × Nat) := match txN b p i with
 | some (t0, i) => match txN b p i with
  | some (t1, i) => match txN b p i with
   | some (t2, i) => match txN b p i with
    | some (t3, i) => some (⟨t0, t1, t2, t3⟩, i)
    | none => none
   | none => none
  | none => none
 | none => none
def signsR (b : List Nat) (i : Nat) : Option (St22 × Nat) := match sgN b i with
 | some (n0, i) => match sgN b i with
  | some (n1, i) => match sgN b i with
   | some (n2, i) => match sgN b i with
    | some (n3, i) => match sgN b i with
     | some (n4, i) => match sgN b i with
      | some (n5, i) => match sgN b i with
       | some (n6, i) => some (⟨n0, n1, n2, n3, n4, n5, n6⟩, i)
       | none => none
      | none => none
     | none => none
    | none => none
   | none => none
  | none => none
 | none => none
def cntR {T : Type} (b : List Nat) (f : Nat → Option (T × Nat)) (i : Nat) : Option (List T × Nat) := match tkN b 2 i with
 | some (n, j) => rMany f j n
 | none => none
def locR (b : List Nat) (p : List Tx) (i : Nat) : Option (St28 × Nat) := match txN b p i with
 | some (t, i) => match signsR b i with
  | some (s, i) => match patsR b p i with
   | some (ps, i) => match cntR b (ruleR b p) i with
    | some (rs, i) => match cntR b (curR b p) i with
     | some (cs, i) => match cntR b (compR b p) i with
      | some (ks, i) => some (⟨t, s, ps, rs, cs, ks⟩, i)
      | none => none
     | none => none
    | none => none
   | none => none
  | none => none
 | none => none
def rdL (b : List Nat) : Option St28 := if (tpV b 56).2.2 = 0 then (locR b (tpV b 56).1 (tpV b 56).2.1.toNat).map Prod.fst else none
theorem ex_next {S O : Type} {step : S → Option (S ⊕ O)} {n : Nat} {s s' : S} {Q : O → Prop} (h : step s = some (.inl s')) (k : ∃ o, loopN step n s' = some o ∧ Q o) : ∃ o, loopN step (n + 1) s = some o ∧ Q o := by rw [loopN_next h]; exact k
theorem ex_out {S O : Type} {step : S → Option (S ⊕ O)} {n : Nat} {s : S} {o : O} {Q : O → Prop} (h : step s = some (.inr o)) (k : Q o) : ∃ o, loopN step (n + 1) s = some o ∧ Q o := ⟨o, loopN_out h, k⟩
theorem ex_bind {α β : Type} {x : Option α} {k : α → Option β} {Q : β → Prop} (post : α → Prop) (h : ∃ o, x = some o ∧ post o) (hk : ∀ o, post o → ∃ b, k o = some b ∧ Q b) : ∃ b, Option.bind x k = some b ∧ Q b := by
 obtain ⟨o, rfl, h2⟩ := h; exact hk o h2
theorem ex_mono {α : Type} {x : Option α} {P Q : α → Prop} (h : ∃ o, x = some o ∧ P o) (hk : ∀ o, P o → Q o) : ∃ o, x = some o ∧ Q o := by
 obtain ⟨o, h1, h2⟩ := h; exact ⟨o, h1, hk o h2⟩
theorem ex_inl {α β γ : Type} {x : α} {f : α → Option γ} {g : β → Option γ} {Q : γ → Prop} (h : ∃ b, f x = some b ∧ Q b) : ∃ b, Sum.elim f g (.inl x) = some b ∧ Q b := h
theorem ex_jl {α γ : Type} {x : α} {k : α → Option γ} {Q : γ → Prop} (h : ∃ b, k x = some b ∧ Q b) : ∃ b, joinX k (.inl x) = some b ∧ Q b := h
theorem ex_some {α β : Type} {a : α} {k : α → Option β} {Q : β → Prop} (h : ∃ b, k a = some b ∧ Q b) : ∃ b, Option.bind (some a) k = some b ∧ Q b := h
def okLoc (x : Option (St28 × Nat)) (o : (St28 × Int) ⊕ Int) : Prop := match x with
 | some (l, j) => o = .inl (l, (j : Int))
 | none => ∃ e, o = .inr e
theorem okLoc_n {x : Option (St28 × Nat)} (h : x = none) (e : Int) : okLoc x (.inr e) := by subst h; exact ⟨e, rfl⟩
theorem locale_r {b : List Nat} {p : List Tx} {i : Nat} (hb : bytesP b) (hl : b.length ≤ 140737488355328) (hi : i ≤ b.length) : ∃ o, bund_reader__locale_s0 (up b) (i : Int) p = some o ∧ okLoc (locR b p i) o := by
 unfold bund_reader__locale_s0
 rw [text_r hb hl hi]
 cases h0 : txN b p i with
 | none => exact ⟨_, rfl, okLoc_n (by simp only [locR, h0]) _⟩
 | some q =>
 obtain ⟨tg, i0⟩ := q
 have l0 := txN_le h0
 refine ex_some (ex_inl ?_)
 rw [sign_r hb hl (by omega)]
 cases s0 : sgN b i0 with
 | none => exact ⟨_, rfl, okLoc_n (by simp only [locR, signsR, h0, s0]) _⟩
 | some q =>
 obtain ⟨n0, i1⟩ := q
 have ls0 := sgN_le s0
 refine ex_some (ex_inl ?_)
 rw [sign_r hb hl (by omega)]
 cases s1 : sgN b i1 with
 | none => exact ⟨_, rfl, okLoc_n (by simp only [locR, signsR, h0, s0, s1]) _⟩
 | some q =>
 obtain ⟨n1, i2⟩ := q
 have ls1 := sgN_le s1
 refine ex_some (ex_inl ?_)
 rw [sign_r hb hl (by omega)]
 cases s2 : sgN b i2 with
 | none => exact ⟨_, rfl, okLoc_n (by simp only [locR, signsR, h0, s0, s1, s2]) _⟩
 | some q =>
 obtain ⟨n2, i3⟩ := q
 have ls2 := sgN_le s2
 refine ex_some (ex_inl ?_)
 rw [sign_r hb hl (by omega)]
 cases s3 : sgN b i3 with
 | none => exact ⟨_, rfl, okLoc_n (by simp only [locR, signsR, h0, s0, s1, s2, s3]) _⟩
 | some q =>
 obtain ⟨n3, i4⟩ := q
 have ls3 := sgN_le s3
 refine ex_some (ex_inl ?_)
 rw [sign_r hb hl (by omega)]
 cases s4 : sgN b i4 with
 | none => exact ⟨_, rfl, okLoc_n (by simp only [locR, signsR, h0, s0, s1, s2, s3, s4]) _⟩
 | some q =>
 obtain ⟨n4, i5⟩ := q
 have ls4 := sgN_le s4
 refine ex_some (ex_inl ?_)
 rw [sign_r hb hl (by omega)]
 cases s5 : sgN b i5 with
 | none => exact ⟨_, rfl, okLoc_n (by simp only [locR, signsR, h0, s0, s1, s2, s3, s4, s5]) _⟩
 | some q =>
 obtain ⟨n5, i6⟩ := q
 have ls5 := sgN_le s5
 refine ex_some (ex_inl ?_)
 rw [sign_r hb hl (by omega)]
 cases s6 : sgN b i6 with
 | none => exact ⟨_, rfl, okLoc_n (by simp only [locR, signsR, h0, s0, s1, s2, s3, s4, s5, s6]) _⟩
 | some q =>
 obtain ⟨n6, i7⟩ := q
 have ls6 := sgN_le s6
 refine ex_some (ex_inl ?_)
 refine ex_bind (fun o => match patsR b p i7 with
  | some (ps, j) => o = .inl ((j : Int), ps.a0_, ps.a1_, ps.a2_, ps.a3_)
  | none => ∃ e, o = .inr (.inr e)) ?_ (fun o ho => ?_)
 ·skip
  cases p0 : txN b p i7 with
  | none => exact ex_out (n := 18446744073709551615) (o := .inr (.inr (txE b i7))) (by
    show Option.bind (bund_reader__text_s0 (up b) (i7 : Int) p) _ = _
    rw [text_r hb hl (by omega), p0]; rfl) (by rw [show patsR b p i7 = none from by unfold patsR; simp only [p0]]; exact ⟨_, rfl⟩)
  | some q =>
  obtain ⟨t0, i8⟩ := q
  have lp0 := txN_le p0
  refine ex_next (n := 18446744073709551615) (s' := ((1 : Int), (i8 : Int), t0, [], [], [])) (by
    show Option.bind (bund_reader__text_s0 (up b) (i7 : Int) p) _ = _
    rw [text_r hb hl (by omega), p0]; rfl) ?_
  cases p1 : txN b p i8 with
  | none => exact ex_out (n := 18446744073709551614) (o := .inr (.inr (txE b i8))) (by
    show Option.bind (bund_reader__text_s0 (up b) (i8 : Int) p) _ = _
    rw [text_r hb hl (by omega), p1]; rfl) (by rw [show patsR b p i7 = none from by unfold patsR; simp only [p0, p1]]; exact ⟨_, rfl⟩)
  | some q =>
  obtain ⟨t1, i9⟩ := q
  have lp1 := txN_le p1
  refine ex_next (n := 18446744073709551614) (s' := ((2 : Int), (i9 : Int), t0, t1, [], [])) (by
    show Option.bind (bund_reader__text_s0 (up b) (i8 : Int) p) _ = _
    rw [text_r hb hl (by omega), p1]; rfl) ?_
  cases p2 : txN b p i9 with
  | none => exact ex_out (n := 18446744073709551613) (o := .inr (.inr (txE b i9))) (by
    show Option.bind (bund_reader__text_s0 (up b) (i9 : Int) p) _ = _
    rw [text_r hb hl (by omega), p2]; rfl) (by rw [show patsR b p i7 = none from by unfold patsR; simp only [p0, p1, p2]]; exact ⟨_, rfl⟩)
  | some q =>
  obtain ⟨t2, i10⟩ := q
  have lp2 := txN_le p2
  refine ex_next (n := 18446744073709551613) (s' := ((3 : Int), (i10 : Int), t0, t1, t2, [])) (by
    show Option.bind (bund_reader__text_s0 (up b) (i9 : Int) p) _ = _
    rw [text_r hb hl (by omega), p2]; rfl) ?_
  cases p3 : txN b p i10 with
  | none => exact ex_out (n := 18446744073709551612) (o := .inr (.inr (txE b i10))) (by
    show Option.bind (bund_reader__text_s0 (up b) (i10 : Int) p) _ = _
    rw [text_r hb hl (by omega), p3]; rfl) (by rw [show patsR b p i7 = none from by unfold patsR; simp only [p0, p1, p2, p3]]; exact ⟨_, rfl⟩)
  | some q =>
  obtain ⟨t3, i11⟩ := q
  have lp3 := txN_le p3
  refine ex_next (n := 18446744073709551612) (s' := ((4 : Int), (i11 : Int), t0, t1, t2, t3)) (by
    show Option.bind (bund_reader__text_s0 (up b) (i10 : Int) p) _ = _
    rw [text_r hb hl (by omega), p3]; rfl) ?_
  exact ex_out (n := 18446744073709551611) rfl (by rw [show patsR b p i7 = some (⟨t0, t1, t2, t3⟩, i11) from by unfold patsR; simp only [p0, p1, p2, p3]])
 cases hp : patsR b p i7 with
 | none => rw [hp] at ho; obtain ⟨e, rfl⟩ := ho; exact ⟨_, rfl, okLoc_n (by simp only [locR, signsR, h0, s0, s1, s2, s3, s4, s5, s6, hp]) _⟩
 | some q =>
 obtain ⟨ps, j0⟩ := q
 rw [hp] at ho
 simp only at ho
 subst ho
 refine ex_jl ?_
 have lps : j0 ≤ b.length := by
  unfold patsR at hp
  repeat' split at hp
  all_goals first | (cases hp; rename_i h4; exact (txN_le h4).2) | cases hp
 refine ex_bind (fun o => match cntR b (ruleR b p) j0 with
  | some (xs, j) => o = .inl ((j : Int), xs)
  | none => ∃ e, o = .inr (.inr e)) ?_ (fun o ho => ?_)
 ·rw [take_r2 hb hl (by omega)]
  unfold cntR
  cases hc : tkN b 2 j0 with
  | none => exact ⟨_, rfl, _, rfl⟩
  | some q =>
  obtain ⟨n, j1⟩ := q
  have ln := tkN_le hc
  have hlt := tkN_lt hb (by omega) hc
  refine ex_some (ex_inl ?_)
  have hf := fun m {xs} {j} => rMany_le (ruleR_le (b := b) (p := p)) ln.2 m (xs := xs) (j := j)
  refine ex_mono (P := fun o : (Int × List St57) ⊕ ((St28 × Int) ⊕ Int) => ((∃ xs j, o = .inl (((j : Nat) : Int), xs) ∧ rMany (ruleR b p) j1 n = some (xs, j)) ∨ ((∃ e, o = .inr (.inr e)) ∧ rMany (ruleR b p) j1 n = none))) ?_ (fun o hq => ?_)
  ·refine loop_count n (fun m => match rMany (ruleR b p) j1 m with
    | some (xs, j) => ((m : Int), (j : Int), xs)
    | none => (0, 0, [])) (fun m => ∃ xs j, rMany (ruleR b p) j1 m = some (xs, j)) _ rfl ⟨_, _, rfl⟩ (fun m hm hI => ?_) (fun hI => ?_) (by omega)
   rotate_left
   ·obtain ⟨xs, j, hx⟩ := hI
    rw [hx]
    exact ⟨_, by simp only; rw [dF (by omega)]; rfl, .inl ⟨xs, j, rfl, rfl⟩⟩
   obtain ⟨xs, j, hx⟩ := hI
   obtain ⟨f1, f2, f3⟩ := hf m hx
   have hnone : ruleR b p j = none → rMany (ruleR b p) j1 n = none := fun e => by
    have h1 : rMany (ruleR b p) j1 (m + 1) = none := by rw [rMany_s hx, e]
    have := rMany_none h1 (n - (m + 1))
    rwa [show m + 1 + (n - (m + 1)) = n by omega] at this
   have hsome : ∀ {x k}, ruleR b p j = some (x, k) → rMany (ruleR b p) j1 (m + 1) = some (xs ++ [x], k) := fun e => by rw [rMany_s hx, e]
   rw [hx]
   simp only
   rw [dT (by omega)]
   simp only [cond_true]
   rw [take_r1 hb hl (by omega)]
   cases c1 : tkN b 1 j with
   | none => right; refine ⟨.inr (.inr (j : Int)), rfl, .inr ⟨⟨_, rfl⟩, hnone (by unfold ruleR; rw [c1])⟩⟩
   | some q =>
   obtain ⟨c, ja⟩ := q
   have lc := tkN_le c1
   simp only [Option.bind_some, Sum.elim_inl]
   rw [text_r hb hl (by omega)]
   cases c2 : txN b p ja with
   | none => right; refine ⟨.inr (.inr (txE b ja)), rfl, .inr ⟨⟨_, rfl⟩, hnone (by unfold ruleR; rw [c1]; simp only; rw [c2])⟩⟩
   | some q =>
   obtain ⟨t, jb⟩ := q
   have hs := hsome (x := (⟨(c : Int), t⟩ : St57)) (k := jb) (by unfold ruleR; rw [c1]; simp only; rw [c2])
   left
   rw [hs]
   simp only [Option.bind_some, Sum.elim_inl]
   rw [room_of (by simp; omega), w64 (n := (m : Int) + 1) (by omega) (by omega)]
   exact ⟨by simp, _, _, rfl⟩
  rcases hq with ⟨xs, j, rfl, hx⟩ | ⟨⟨e, rfl⟩, hx⟩
  ·simp only [hx]
  ·simp only [hx]; exact ⟨e, rfl⟩
 cases hc0 : cntR b (ruleR b p) j0 with
 | none => rw [hc0] at ho; obtain ⟨e, rfl⟩ := ho; exact ⟨_, rfl, okLoc_n (by simp only [locR, signsR, h0, s0, s1, s2, s3, s4, s5, s6, hp, hc0]) _⟩
 | some q =>
 obtain ⟨xs0, j1⟩ := q
 rw [hc0] at ho
 simp only at ho
 subst ho
 refine ex_jl ?_
 have lc0 : j1 ≤ b.length := by
  unfold cntR at hc0
  split at hc0
  ·rename_i n j1 h1
   exact (rMany_le ruleR_le (tkN_le h1).2 _ hc0).2.1
  ·cases hc0
 refine ex_bind (fun o => match cntR b (curR b p) j1 with
  | some (xs, j) => o = .inl ((j : Int), xs)
  | none => ∃ e, o = .inr (.inr e)) ?_ (fun o ho => ?_)
 ·rw [take_r2 hb hl (by omega)]
  unfold cntR
  cases hc : tkN b 2 j1 with
  | none => exact ⟨_, rfl, _, rfl⟩
  | some q =>
  obtain ⟨n, j1⟩ := q
  have ln := tkN_le hc
  have hlt := tkN_lt hb (by omega) hc
  refine ex_some (ex_inl ?_)
  have hf := fun m {xs} {j} => rMany_le (curR_le (b := b) (p := p)) ln.2 m (xs := xs) (j := j)
  refine ex_mono (P := fun o : (Int × List St59) ⊕ ((St28 × Int) ⊕ Int) => ((∃ xs j, o = .inl (((j : Nat) : Int), xs) ∧ rMany (curR b p) j1 n = some (xs, j)) ∨ ((∃ e, o = .inr (.inr e)) ∧ rMany (curR b p) j1 n = none))) ?_ (fun o hq => ?_)
  ·refine loop_count n (fun m => match rMany (curR b p) j1 m with
    | some (xs, j) => ((m : Int), (j : Int), xs)
    | none => (0, 0, [])) (fun m => ∃ xs j, rMany (curR b p) j1 m = some (xs, j)) _ rfl ⟨_, _, rfl⟩ (fun m hm hI => ?_) (fun hI => ?_) (by omega)
   rotate_left
   ·obtain ⟨xs, j, hx⟩ := hI
    rw [hx]
    exact ⟨_, by simp only; rw [dF (by omega)]; rfl, .inl ⟨xs, j, rfl, rfl⟩⟩
   obtain ⟨xs, j, hx⟩ := hI
   obtain ⟨f1, f2, f3⟩ := hf m hx
   have hnone : curR b p j = none → rMany (curR b p) j1 n = none := fun e => by
    have h1 : rMany (curR b p) j1 (m + 1) = none := by rw [rMany_s hx, e]
    have := rMany_none h1 (n - (m + 1))
    rwa [show m + 1 + (n - (m + 1)) = n by omega] at this
   have hsome : ∀ {x k}, curR b p j = some (x, k) → rMany (curR b p) j1 (m + 1) = some (xs ++ [x], k) := fun e => by rw [rMany_s hx, e]
   rw [hx]
   simp only
   rw [dT (by omega)]
   simp only [cond_true]
   rw [text_r hb hl (by omega)]
   cases c1 : txN b p j with
   | none => right; refine ⟨.inr (.inr (txE b j)), rfl, .inr ⟨⟨_, rfl⟩, hnone (by unfold curR; rw [c1])⟩⟩
   | some q =>
   obtain ⟨c, ja⟩ := q
   have lc := txN_le c1
   simp only [Option.bind_some, Sum.elim_inl]
   rw [text_r hb hl (by omega)]
   cases c2 : txN b p ja with
   | none => right; refine ⟨.inr (.inr (txE b ja)), rfl, .inr ⟨⟨_, rfl⟩, hnone (by unfold curR; rw [c1]; simp only; rw [c2])⟩⟩
   | some q =>
   obtain ⟨t, jc⟩ := q
   have lc2 := txN_le c2
   simp only [Option.bind_some, Sum.elim_inl]
   rw [take_r1 hb hl (by omega)]
   cases c3 : tkN b 1 jc with
   | none => right; refine ⟨.inr (.inr (jc : Int)), rfl, .inr ⟨⟨_, rfl⟩, hnone (by unfold curR; rw [c1]; simp only; rw [c2]; simp only; rw [c3])⟩⟩
   | some q =>
   obtain ⟨d, jb⟩ := q
   have hs := hsome (x := (⟨c, t, (d : Int)⟩ : St59)) (k := jb) (by unfold curR; rw [c1]; simp only; rw [c2]; simp only; rw [c3])
   left
   rw [hs]
   simp only [Option.bind_some, Sum.elim_inl]
   rw [room_of (by simp; omega), w64 (n := (m : Int) + 1) (by omega) (by omega)]
   exact ⟨by simp, _, _, rfl⟩
  rcases hq with ⟨xs, j, rfl, hx⟩ | ⟨⟨e, rfl⟩, hx⟩
  ·simp only [hx]
  ·simp only [hx]; exact ⟨e, rfl⟩
 cases hc1 : cntR b (curR b p) j1 with
 | none => rw [hc1] at ho; obtain ⟨e, rfl⟩ := ho; exact ⟨_, rfl, okLoc_n (by simp only [locR, signsR, h0, s0, s1, s2, s3, s4, s5, s6, hp, hc0, hc1]) _⟩
 | some q =>
 obtain ⟨xs1, j2⟩ := q
 rw [hc1] at ho
 simp only at ho
 subst ho
 refine ex_jl ?_
 have lc1 : j2 ≤ b.length := by
  unfold cntR at hc1
  split at hc1
  ·rename_i n j1 h1
   exact (rMany_le curR_le (tkN_le h1).2 _ hc1).2.1
  ·cases hc1
 refine ex_bind (fun o => match cntR b (compR b p) j2 with
  | some (xs, j) => o = .inl ((j : Int), xs)
  | none => ∃ e, o = .inr (.inr e)) ?_ (fun o ho => ?_)
 ·rw [take_r2 hb hl (by omega)]
  unfold cntR
  cases hc : tkN b 2 j2 with
  | none => exact ⟨_, rfl, _, rfl⟩
  | some q =>
  obtain ⟨n, j1⟩ := q
  have ln := tkN_le hc
  have hlt := tkN_lt hb (by omega) hc
  refine ex_some (ex_inl ?_)
  have hf := fun m {xs} {j} => rMany_le (compR_le (b := b) (p := p)) ln.2 m (xs := xs) (j := j)
  refine ex_mono (P := fun o : (Int × List St61) ⊕ ((St28 × Int) ⊕ Int) => ((∃ xs j, o = .inl (((j : Nat) : Int), xs) ∧ rMany (compR b p) j1 n = some (xs, j)) ∨ ((∃ e, o = .inr (.inr e)) ∧ rMany (compR b p) j1 n = none))) ?_ (fun o hq => ?_)
  ·refine loop_count n (fun m => match rMany (compR b p) j1 m with
    | some (xs, j) => ((m : Int), (j : Int), xs)
    | none => (0, 0, [])) (fun m => ∃ xs j, rMany (compR b p) j1 m = some (xs, j)) _ rfl ⟨_, _, rfl⟩ (fun m hm hI => ?_) (fun hI => ?_) (by omega)
   rotate_left
   ·obtain ⟨xs, j, hx⟩ := hI
    rw [hx]
    exact ⟨_, by simp only; rw [dF (by omega)]; rfl, .inl ⟨xs, j, rfl, rfl⟩⟩
   obtain ⟨xs, j, hx⟩ := hI
   obtain ⟨f1, f2, f3⟩ := hf m hx
   have hnone : compR b p j = none → rMany (compR b p) j1 n = none := fun e => by
    have h1 : rMany (compR b p) j1 (m + 1) = none := by rw [rMany_s hx, e]
    have := rMany_none h1 (n - (m + 1))
    rwa [show m + 1 + (n - (m + 1)) = n by omega] at this
   have hsome : ∀ {x k}, compR b p j = some (x, k) → rMany (compR b p) j1 (m + 1) = some (xs ++ [x], k) := fun e => by rw [rMany_s hx, e]
   rw [hx]
   simp only
   rw [dT (by omega)]
   simp only [cond_true]
   rw [take_r1 hb hl (by omega)]
   cases c1 : tkN b 1 j with
   | none => right; refine ⟨.inr (.inr (j : Int)), rfl, .inr ⟨⟨_, rfl⟩, hnone (by unfold compR; rw [c1])⟩⟩
   | some q =>
   obtain ⟨c, ja⟩ := q
   have lc := tkN_le c1
   simp only [Option.bind_some, Sum.elim_inl]
   rw [take_r1 hb hl (by omega)]
   cases c2 : tkN b 1 ja with
   | none => right; refine ⟨.inr (.inr (ja : Int)), rfl, .inr ⟨⟨_, rfl⟩, hnone (by unfold compR; rw [c1]; simp only; rw [c2])⟩⟩
   | some q =>
   obtain ⟨d, jc⟩ := q
   have lc2 := tkN_le c2
   simp only [Option.bind_some, Sum.elim_inl]
   rw [text_r hb hl (by omega)]
   cases c3 : txN b p jc with
   | none => right; refine ⟨.inr (.inr (txE b jc)), rfl, .inr ⟨⟨_, rfl⟩, hnone (by unfold compR; rw [c1]; simp only; rw [c2]; simp only; rw [c3])⟩⟩
   | some q =>
   obtain ⟨t, jb⟩ := q
   have hs := hsome (x := (⟨(c : Int), (d : Int), t⟩ : St61)) (k := jb) (by unfold compR; rw [c1]; simp only; rw [c2]; simp only; rw [c3])
   left
   rw [hs]
   simp only [Option.bind_some, Sum.elim_inl]
   rw [room_of (by simp; omega), w64 (n := (m : Int) + 1) (by omega) (by omega)]
   exact ⟨by simp, _, _, rfl⟩
  rcases hq with ⟨xs, j, rfl, hx⟩ | ⟨⟨e, rfl⟩, hx⟩
  ·simp only [hx]
  ·simp only [hx]; exact ⟨e, rfl⟩
 cases hc2 : cntR b (compR b p) j2 with
 | none => rw [hc2] at ho; obtain ⟨e, rfl⟩ := ho; exact ⟨_, rfl, okLoc_n (by simp only [locR, signsR, h0, s0, s1, s2, s3, s4, s5, s6, hp, hc0, hc1, hc2]) _⟩
 | some q =>
 obtain ⟨xs2, j3⟩ := q
 rw [hc2] at ho
 simp only at ho
 subst ho
 refine ex_jl ?_
 have lc2 : j3 ≤ b.length := by
  unfold cntR at hc2
  split at hc2
  ·rename_i n j1 h1
   exact (rMany_le compR_le (tkN_le h1).2 _ hc2).2.1
  ·cases hc2
 refine ⟨_, rfl, ?_⟩
 simp only [okLoc, locR, signsR, h0, s0, s1, s2, s3, s4, s5, s6, hp, hc0, hc1, hc2]
theorem sEq (s t : St22) : (decide (s.Zero_ = t.Zero_) && (decide (s.Dec_ = t.Dec_) && (decide (s.Group_ = t.Group_) && (decide (s.Minus_ = t.Minus_) && (decide (s.Plus_ = t.Plus_) && (decide (s.Percent_ = t.Percent_) && (decide (s.Exp_ = t.Exp_) && true))))))) = decide (s = t) := by
 obtain ⟨a0, a1, a2, a3, a4, a5, a6⟩ := s
 obtain ⟨b0, b1, b2, b3, b4, b5, b6⟩ := t
 simp [St22.mk.injEq, Bool.decide_and]
theorem tEq (a b : Tx) : (a == b) = decide (a = b) := by by_cases h : a = b <;> simp [h]
theorem pEq (s t : St24) : ((s.a0_ == t.a0_) && ((s.a1_ == t.a1_) && ((s.a2_ == t.a2_) && ((s.a3_ == t.a3_) && true)))) = decide (s = t) := by
 obtain ⟨a0, a1, a2, a3⟩ := s
 obtain ⟨b0, b1, b2, b3⟩ := t
 simp [St24.mk.injEq, Bool.decide_and, tEq]
theorem rEq (s t : St57) : (decide (s.Cat_ = t.Cat_) && ((s.Text_ == t.Text_) && true)) = decide (s = t) := by
 obtain ⟨a0, a1⟩ := s
 obtain ⟨b0, b1⟩ := t
 simp [St57.mk.injEq, Bool.decide_and, tEq]
theorem cEq (s t : St59) : ((s.Code_ == t.Code_) && ((s.Sign_ == t.Sign_) && (decide (s.Digits_ = t.Digits_) && true))) = decide (s = t) := by
 obtain ⟨a0, a1, a2⟩ := s
 obtain ⟨b0, b1, b2⟩ := t
 simp [St59.mk.injEq, Bool.decide_and, tEq]
theorem kEq (s t : St61) : (decide (s.Mag_ = t.Mag_) && (decide (s.Cat_ = t.Cat_) && ((s.Pat_ == t.Pat_) && true))) = decide (s = t) := by
 obtain ⟨a0, a1, a2⟩ := s
 obtain ⟨b0, b1, b2⟩ := t
 simp [St61.mk.injEq, Bool.decide_and, tEq]
theorem bj {S X : Type} (s : S) (k : S → Option X) : Option.bind (some (Sum.inl s)) (joinX k) = k s := rfl
theorem same_loopE {T : Type} [Inhabited T] [DecidableEq T] (eq : T → T → Bool) (heq : ∀ a b, eq a b = decide (a = b)) {xs ys : List T} (h : xs.length = ys.length) (hb : xs.length ≤ 4611686018427387904) :
  loopN (fun s : Int => bif decide (s < (xs.length : Int)) then bif inR s xs.length then bif inR s ys.length then bif (!eq (nth xs s) (nth ys s)) then some (.inr (.inr false)) else some (.inl (IntKind.wrap .i64 (s + 1))) else none else none else some (.inr (.inl ()))) big 0 = some (if xs = ys then (.inl () : Unit ⊕ Bool) else .inr false) := by
 have key : ∃ o, loopN (fun s : Int => bif decide (s < (xs.length : Int)) then bif inR s xs.length then bif inR s ys.length then bif (!eq (nth xs s) (nth ys s)) then some (.inr (.inr false)) else some (.inl (IntKind.wrap .i64 (s + 1))) else none else none else some (.inr (.inl () : Unit ⊕ Bool))) big 0 = some o ∧ o = if xs = ys then (.inl () : Unit ⊕ Bool) else .inr false := by
  refine loop_count xs.length (fun i => (i : Int)) (fun i => xs.take i = ys.take i) _ rfl rfl (fun i hi hI => ?_) (fun hI => ?_) (by omega)
  ·rw [dT (by omega), inR_int (by omega) (by omega), inR_int (by omega) (by omega)]
   simp only [cond_true]
   rw [nth_nat hi, nth_nat (show i < ys.length by omega), heq]
   by_cases he : xs[i] = ys[i]
   ·left
    rw [dT he, w64 (by omega) (by omega)]
    refine ⟨rfl, ?_⟩
    rw [List.take_add_one, List.take_add_one, hI, List.getElem?_eq_getElem hi, List.getElem?_eq_getElem (show i < ys.length by omega), he]
   ·right
    rw [dF he]
    refine ⟨_, rfl, ?_⟩
    rw [if_neg (fun e => he (by subst e; rfl))]
  ·rw [dF (by omega)]
   refine ⟨_, rfl, ?_⟩
   rw [List.take_length, h, List.take_length] at hI
   rw [if_pos hI]
 obtain ⟨o, h1, h2⟩ := key
 rw [h1, h2]
theorem same_eq {a b : St28} (h1 : a.Rules_.length ≤ 4611686018427387904) (h2 : a.Curs_.length ≤ 4611686018427387904) (h3 : a.Comps_.length ≤ 4611686018427387904) : exergueref15_Same a b = some (decide (a = b)) := by
 unfold exergueref15_Same
 rw [bne_dec, sEq, pEq]
 simp only [bif_or, Option.bind_some]
 by_cases e1 : a.Tag_ = b.Tag_
 rotate_left
 ·rw [dT e1, dF (p := a = b) (fun e => e1 (by rw [e]))]; rfl
 by_cases e2 : a.S_ = b.S_
 rotate_left
 ·rw [dF e2, dF (p := a = b) (fun e => e2 (by rw [e]))]; simp [joinX]
 by_cases e3 : a.Pats_ = b.Pats_
 rotate_left
 ·rw [dF e3, dF (p := a = b) (fun e => e3 (by rw [e]))]; simp [joinX]
 by_cases e4 : a.Rules_.length = b.Rules_.length
 rotate_left
 ·rw [dT (show ¬ (a.Rules_.length : Int) = b.Rules_.length by omega), dF (p := a = b) (fun e => e4 (by rw [e]))]; simp [joinX]
 by_cases e5 : a.Curs_.length = b.Curs_.length
 rotate_left
 ·rw [dT (show ¬ (a.Curs_.length : Int) = b.Curs_.length by omega), dF (p := a = b) (fun e => e5 (by rw [e]))]; simp [joinX]
 by_cases e6 : a.Comps_.length = b.Comps_.length
 rotate_left
 ·rw [dT (show ¬ (a.Comps_.length : Int) = b.Comps_.length by omega), dF (p := a = b) (fun e => e6 (by rw [e]))]; simp [joinX]
 rw [dF (fun g => g e1), dT e2, dT e3, dF (fun g => g (by omega)), dF (fun g => g (by omega)), dF (fun g => g (by omega))]
 rw [show (bif false || (!true || (!true || (false || (false || false)))) then some (Sum.inr false) else some (Sum.inl ()) : Option (Unit ⊕ Bool)) = some (Sum.inl ()) from rfl, bj]
 have Le4 := same_loopE (fun s t => (decide (s.Cat_ = t.Cat_) && ((s.Text_ == t.Text_) && true))) rEq e4 h1
 try simp only at Le4
 rw [Le4]
 clear Le4
 by_cases e7 : a.Rules_ = b.Rules_
 rotate_left
 ·rw [if_neg e7, dF (p := a = b) (fun e => e7 (by rw [e]))]; rfl
 rw [if_pos e7]
 rw [bj]
 have Le5 := same_loopE (fun s t => ((s.Code_ == t.Code_) && ((s.Sign_ == t.Sign_) && (decide (s.Digits_ = t.Digits_) && true)))) cEq e5 h2
 try simp only at Le5
 rw [Le5]
 clear Le5
 by_cases e8 : a.Curs_ = b.Curs_
 rotate_left
 ·rw [if_neg e8, dF (p := a = b) (fun e => e8 (by rw [e]))]; rfl
 rw [if_pos e8]
 rw [bj]
 have Le6 := same_loopE (fun s t => (decide (s.Mag_ = t.Mag_) && (decide (s.Cat_ = t.Cat_) && ((s.Pat_ == t.Pat_) && true)))) kEq e6 h3
 try simp only at Le6
 rw [Le6]
 clear Le6
 by_cases e9 : a.Comps_ = b.Comps_
 rotate_left
 ·rw [if_neg e9, dF (p := a = b) (fun e => e9 (by rw [e]))]; rfl
 rw [if_pos e9, dT (show a = b from by
  obtain ⟨t, s, p, r, c, k⟩ := a
  obtain ⟨t', s', p', r', c', k'⟩ := b
  simp only at e1 e2 e3 e7 e8 e9
  subst e1; subst e2; subst e3; subst e7; subst e8; subst e9; rfl)]; rfl
theorem small_eq (l : St28) (hl : l.Rules_.length < 18446744073709551616 ∧ l.Curs_.length < 18446744073709551616 ∧ l.Comps_.length < 18446744073709551616) : ∃ b, exergueref15_Small l = some b ∧ (b = true → l.Rules_.length ≤ 8 ∧ l.Curs_.length ≤ 105 ∧ l.Comps_.length ≤ 95) := by
 unfold exergueref15_Small
 refine ex_bind (fun _ => True) ⟨_, rfl, trivial⟩ (fun s4 _ => ?_)
 simp only [bif_or, Option.bind_some]
 by_cases h1 : l.Rules_.length ≤ 8
 rotate_left
 ·rw [dT (show (l.Rules_.length : Int) > 8 by omega)]; exact ⟨false, rfl, fun h => by cases h⟩
 by_cases h2 : l.Curs_.length ≤ 105
 rotate_left
 ·rw [dT (show (l.Curs_.length : Int) > 105 by omega), Bool.true_or, Bool.or_true]; exact ⟨false, rfl, fun h => by cases h⟩
 by_cases h3 : l.Comps_.length ≤ 95
 rotate_left
 ·rw [dT (show (l.Comps_.length : Int) > 95 by omega), Bool.or_true, Bool.or_true]; exact ⟨false, rfl, fun h => by cases h⟩
 rw [dF (by omega), dF (by omega), dF (by omega)]
 refine ex_some (ex_jl ?_)
 refine ex_bind (fun _ => True) ⟨_, loop_fold l.Rules_ (fun pre => (pre.foldl (fun n r => IntKind.wrap .i64 (n + (r.Text_.length : Int))) s4, (pre.length : Int))) _ rfl (fun pre x suf h => ?_) (by simp only; rw [lt_end]; rfl) hl.1, trivial⟩ (fun s6 _ => ?_)
 ·have hl' : (pre ++ x :: suf).length ≤ 4611686018427387904 := by rw [← h]; omega
  simp only
  rw [h, lt_mid, inR_mid, nth_mid, w_mid hl', List.foldl_append]; rfl
 refine ex_bind (fun _ => True) ⟨_, loop_fold l.Curs_ (fun pre => (pre.foldl (fun n r => IntKind.wrap .i64 (IntKind.wrap .i64 (n + (r.Code_.length : Int)) + (r.Sign_.length : Int))) s6, (pre.length : Int))) _ rfl (fun pre x suf h => ?_) (by simp only; rw [lt_end]; rfl) hl.2.1, trivial⟩ (fun s7 _ => ?_)
 ·have hl' : (pre ++ x :: suf).length ≤ 4611686018427387904 := by rw [← h]; omega
  simp only
  rw [h, lt_mid, inR_mid, nth_mid, w_mid hl', List.foldl_append]; rfl
 refine ex_bind (fun _ => True) ⟨_, loop_fold l.Comps_ (fun pre => (pre.foldl (fun n r => IntKind.wrap .i64 (n + (r.Pat_.length : Int))) s7, (pre.length : Int))) _ rfl (fun pre x suf h => ?_) (by simp only; rw [lt_end]; rfl) hl.2.2, trivial⟩ (fun s8 _ => ?_)
 ·have hl' : (pre ++ x :: suf).length ≤ 4611686018427387904 := by rw [← h]; omega
  simp only
  rw [h, lt_mid, inR_mid, nth_mid, w_mid hl', List.foldl_append]; rfl
 exact ⟨_, rfl, fun _ => ⟨h1, h2, h3⟩⟩
/-! Bytes, taken for a bundle. -/
def zeroL : St28 := ⟨[], ⟨0, 0, 0, 0, 0, 0, 0⟩, ⟨[], [], [], []⟩, [], [], []⟩
def cutV (c : List Nat) : List Nat × Int := if c.length < 4 then ([], 2) else if c = summed (c.take (c.length - 4)) then (c.take (c.length - 4), 0) else ([], 6)
theorem cutV_eq {c : List Nat} (hc : bytesP c) (hl : c.length ≤ 4000000000) : crc_Cut (up c) = some (up (cutV c).1, (cutV c).2) := by
 unfold cutV
 by_cases h4 : c.length < 4
 ·rw [if_pos h4]; exact cut_short h4
 ·rw [if_neg h4]
  obtain ⟨m, x, y, z, w, rfl⟩ := split4 (Nat.le_of_not_lt h4)
  have hml : (m ++ [x, y, z, w]).length - 4 = m.length := by simp
  have hb4 : ∀ q ∈ [x, y, z, w], q < 256 := fun q hq => hc q (List.mem_append_right _ hq)
  have hm : bytesP m := bytes_left hc
  rw [hml, List.take_left' rfl]
  have hiff : (m ++ [x, y, z, w] = summed m) ↔ wordC x y z w = crcN m := by
   rw [tailN_eq (hb4 x (by simp)) (hb4 y (by simp)) (hb4 z (by simp)) (hb4 w (by simp)) (crcN_lt hm)]
   unfold summed tailN
   rw [List.append_cancel_left_eq]
   simp
  rw [List.length_append] at hl
  rw [cut_eq hc (by omega)]
  by_cases he : wordC x y z w = crcN m
  ·rw [if_pos he, if_pos (hiff.2 he)]
  ·rw [if_neg he, if_neg (fun g => he (hiff.1 g))]; try rfl
theorem cutV_bytes {c : List Nat} (hc : bytesP c) : bytesP (cutV c).1 ∧ (cutV c).1.length ≤ c.length := by
 unfold cutV
 split
 ·exact ⟨(fun _ h => by cases h), Nat.zero_le _⟩
 ·split
  ·exact ⟨bytes_take hc _, by rw [List.length_take]; omega⟩
  ·exact ⟨(fun _ h => by cases h), Nat.zero_le _⟩
def decV (c : List Nat) : St28 × Int := if (cutV c).2 = 0 then (match rdL (cutV c).1 with
  | some l => if encV l = (c, 0) then (l, 0) else (zeroL, 2)
  | none => (zeroL, 2)) else (zeroL, (cutV c).2)
theorem tpV_le {b : List Nat} {i : Nat} (h0 : i ≤ b.length) (h : (tpV b (i : Int)).2.2 = 0) : ∃ j : Nat, (tpV b (i : Int)).2.1 = (j : Int) ∧ j ≤ b.length ∧ poolP (tpV b (i : Int)).1 := by
 unfold tpV at h ⊢
 rw [if_neg (by omega)] at h ⊢
 by_cases h2 : (i : Int) + 2 > b.length
 ·rw [if_pos h2] at h; cases h
 ·rw [if_neg h2] at h ⊢
  rw [Int.toNat_natCast] at h ⊢
  cases hp : tpi b (i + 2) (valN ((b.drop i).take 2)) with
  | none => rw [hp] at h; cases h
  | some q =>
   obtain ⟨p, j⟩ := q
   rw [hp] at h
   simp only at h ⊢
   have hf := tpi_facts (l := b) (i0 := i + 2) (by omega) _ hp
   by_cases hpp : poolP p
   ·rw [if_pos hpp]; exact ⟨j, rfl, hf.1, hpp⟩
   ·rw [if_neg hpp] at h; cases h
theorem tpV_short {b : List Nat} {i : Nat} (h : b.length < i + 2) : (tpV b (i : Int)).2.2 ≠ 0 := by
 unfold tpV
 rw [if_neg (by omega), if_pos (by omega)]; simp
theorem read_r {b : List Nat} (hb : bytesP b) (hl : b.length ≤ 140737488355328) : bund_read (up b) = some (match rdL b with | some l => (l, true) | none => (zeroL, false)) := by
 unfold bund_read bund_reader__words_s0
 rw [takep_eq hb hl (by omega)]
 unfold rdL
 by_cases he : (tpV b 56).2.2 = 0
 ·rw [if_pos he]
  simp only [Option.bind_some]
  unfold bund_must_s0
  rw [dF (fun g => g he)]
  simp only [cond_false, Option.bind_some, Sum.elim_inl]
  have h56 : 56 ≤ b.length := Nat.le_of_not_lt fun h => tpV_short (i := 56) (by omega) he
  obtain ⟨j, hj, hjl, _⟩ := tpV_le (i := 56) h56 he
  have hj' : (tpV b 56).2.1 = (j : Int) := hj
  rw [hj', Int.toNat_natCast]
  obtain ⟨o, ho, hok⟩ := locale_r (p := (tpV b 56).1) hb hl hjl
  rw [ho]
  cases hr : locR b (tpV b 56).1 j with
  | none =>
   rw [hr] at hok
   obtain ⟨e, rfl⟩ := hok
   rfl
  | some q =>
   obtain ⟨l, k⟩ := q
   rw [hr] at hok
   subst hok
   rfl
 ·rw [if_neg he]
  simp only [Option.bind_some]
  unfold bund_must_s0
  rw [dT he]; rfl
theorem wrap32 (n : Int) : -2147483648 ≤ IntKind.wrap .i32 n ∧ IntKind.wrap .i32 n < 2147483648 := by
 unfold IntKind.wrap
 simp only [IntKind.signed, IntKind.bits, Bool.true_and]
 have h1 : (0 : Int) ≤ n % 2 ^ 32 := Int.emod_nonneg _ (by decide)
 have h2 : n % 2 ^ 32 < 2 ^ 32 := Int.emod_lt_of_pos _ (by decide)
 have e : (2 : Int) ^ 32 = 4294967296 := by decide
 rw [e] at h1 h2
 have e2 : (2 : Int) ^ (32 - 1) = 2147483648 := by decide
 simp only [e, e2]
 split
 ·rename_i h; simp only [decide_eq_true_eq] at h; omega
 ·rename_i h; simp only [decide_eq_true_eq] at h; omega
def sOk (s : St22) : Prop := ∀ n ∈ signsL s, -2147483648 ≤ n ∧ n < 2147483648
theorem sgN_ok {b : List Nat} {i j : Nat} {n : Int} (h : sgN b i = some (n, j)) : -2147483648 ≤ n ∧ n < 2147483648 := by
 unfold sgN at h
 split at h
 ·cases h; exact wrap32 _
 ·cases h
theorem signsR_ok {b : List Nat} {i j : Nat} {s : St22} (h : signsR b i = some (s, j)) : sOk s ∧ j ≤ b.length := by
 unfold signsR at h
 repeat' split at h
 all_goals first | cases h | skip
 refine ⟨fun n hn => ?_, (sgN_le (by assumption)).2⟩
 simp only [signsL, List.mem_cons, List.not_mem_nil, or_false] at hn
 rcases hn with rfl | rfl | rfl | rfl | rfl | rfl | rfl <;> exact sgN_ok (by assumption)
theorem ruleR_ok {b : List Nat} {p : List Tx} (hb : bytesP b) : ∀ i x j, ruleR b p i = some (x, j) → -9223372036854775808 ≤ x.Cat_ ∧ x.Cat_ < 9223372036854775808 := fun i x j h => by
 unfold ruleR at h
 split at h
 ·rename_i c j1 h1
  split at h
  ·cases h
   have := tkN_lt hb (by omega) h1
   simp only; omega
  ·cases h
 ·cases h
theorem curR_ok {b : List Nat} {p : List Tx} (hb : bytesP b) : ∀ i x j, curR b p i = some (x, j) → -9223372036854775808 ≤ x.Digits_ ∧ x.Digits_ < 9223372036854775808 := fun i x j h => by
 unfold curR at h
 split at h
 ·split at h
  ·split at h
   ·rename_i h1
    cases h
    have := tkN_lt hb (by omega) h1
    simp only; omega
   ·cases h
  ·cases h
 ·cases h
theorem compR_ok {b : List Nat} {p : List Tx} (hb : bytesP b) : ∀ i x j, compR b p i = some (x, j) → (-9223372036854775808 ≤ x.Mag_ ∧ x.Mag_ < 9223372036854775808) ∧ (-9223372036854775808 ≤ x.Cat_ ∧ x.Cat_ < 9223372036854775808) := fun i x j h => by
 unfold compR at h
 split at h
 ·rename_i h1
  split at h
  ·rename_i h2
   split at h
   ·cases h
    have := tkN_lt hb (by omega) h1
    have := tkN_lt hb (by omega) h2
    simp only; omega
   ·cases h
  ·cases h
 ·cases h
theorem rMany_le3 {T : Type} {f : Nat → Option (T × Nat)} {L : Nat} (hf : ∀ j x k, f j = some (x, k) → j + 3 ≤ k ∧ k ≤ L) {i : Nat} (hi : i ≤ L) : ∀ (m : Nat) {xs : List T} {j : Nat}, rMany f i m = some (xs, j) → i + 3 * xs.length ≤ j ∧ j ≤ L
 | 0, xs, j, h => by cases h; simp; exact hi
 | m + 1, xs, j, h => by
  unfold rMany at h
  split at h
  ·rename_i xs' j' h1
   split at h
   ·rename_i x k h2
    cases h
    have h3 := rMany_le3 hf hi m h1
    have h4 := hf _ _ _ h2
    simp only [List.length_append, List.length_cons, List.length_nil]
    omega
   ·cases h
  ·cases h
theorem ruleR_le3 {b : List Nat} {p : List Tx} : ∀ i x j, ruleR b p i = some (x, j) → i + 3 ≤ j ∧ j ≤ b.length := fun i x j h => by
 unfold ruleR at h
 split at h
 ·rename_i c j1 h1
  split at h
  ·rename_i t k h2
   cases h
   have := tkN_le h1
   have := txN_le h2
   omega
  ·cases h
 ·cases h
theorem curR_le3 {b : List Nat} {p : List Tx} : ∀ i x j, curR b p i = some (x, j) → i + 3 ≤ j ∧ j ≤ b.length := fun i x j h => by
 unfold curR at h
 split at h
 ·rename_i c j1 h1
  split at h
  ·rename_i t k h2
   split at h
   ·rename_i d q h3
    cases h
    have := txN_le h1
    have := txN_le h2
    have := tkN_le h3
    omega
   ·cases h
  ·cases h
 ·cases h
theorem compR_le3 {b : List Nat} {p : List Tx} : ∀ i x j, compR b p i = some (x, j) → i + 3 ≤ j ∧ j ≤ b.length := fun i x j h => by
 unfold compR at h
 split at h
 ·rename_i c j1 h1
  split at h
  ·rename_i t k h2
   split at h
   ·rename_i d q h3
    cases h
    have := tkN_le h1
    have := tkN_le h2
    have := txN_le h3
    omega
   ·cases h
  ·cases h
 ·cases h
theorem cntR_ok {T : Type} {b : List Nat} {f : Nat → Option (T × Nat)} {P : T → Prop} (hl : b.length ≤ 170000) (hf : ∀ j x k, f j = some (x, k) → j + 3 ≤ k ∧ k ≤ b.length) (hp : ∀ j x k, f j = some (x, k) → P x) {i j : Nat} {xs : List T} (h : cntR b f i = some (xs, j)) : (xs.length ≤ 60000 ∧ ∀ x ∈ xs, P x) ∧ j ≤ b.length := by
 unfold cntR at h
 split at h
 ·rename_i h1
  have h2 := rMany_le3 hf (tkN_le h1).2 _ h
  exact ⟨⟨by omega, rMany_all hp _ h⟩, h2.2⟩
 ·cases h
theorem locR_med {b : List Nat} {p : List Tx} (hb : bytesP b) (hl : b.length ≤ 170000) {i j : Nat} {l : St28} (h : locR b p i = some (l, j)) : Med l := by
 unfold locR at h
 repeat' split at h
 all_goals first | cases h | skip
 exact ⟨(signsR_ok ‹signsR b _ = some (_, _)›).1, (cntR_ok hl ruleR_le3 (ruleR_ok hb) ‹cntR b (ruleR b p) _ = some (_, _)›).1, (cntR_ok hl curR_le3 (curR_ok hb) ‹cntR b (curR b p) _ = some (_, _)›).1, (cntR_ok hl compR_le3 (compR_ok hb) ‹cntR b (compR b p) _ = some (_, _)›).1⟩
theorem rdL_med {b : List Nat} (hb : bytesP b) (hl : b.length ≤ 170000) {l : St28} (h : rdL b = some l) : Med l := by
 unfold rdL at h
 split at h
 ·cases hr : locR b (tpV b 56).1 (tpV b 56).2.1.toNat with
  | none => rw [hr] at h; cases h
  | some q =>
   rw [hr] at h
   cases h
   exact locR_med hb hl (j := q.2) hr
 ·cases h
theorem bytesS_inj {x y : List Nat} (hx : bytesP x) (hy : bytesP y) : (bytesS (up x) == bytesS (up y)) = decide (x = y) := by
 rw [text_of_bytes, text_of_bytes, tEq]
 by_cases h : x = y
 ·rw [dT h, dT (by rw [h])]
 ·rw [dF h, dF (fun e => h (by
   have := congrArg (List.map UInt8.toNat) e
   rwa [text_forth hx, text_forth hy] at this))]
theorem encV_bytes (l : St28) : bytesP (encV l).1 := by
 unfold encV
 split
 ·exact fun _ h => by cases h
 ·exact bytes_append (bytesL_bytes l) (tail_bytes _)
theorem decode_eq {c : List Nat} (hc : bytesP c) (hl : c.length ≤ 170000) : bund_Decode (up c) = some (decV c) := by
 unfold bund_Decode decV
 rw [cutV_eq hc (by omega)]
 have hcb := cutV_bytes hc
 simp only [Option.bind_some]
 by_cases he : (cutV c).2 = 0
 ·rw [dF (fun g => g he), if_pos he, read_r hcb.1 (by omega)]
  simp only [cond_false, Option.bind_some]
  cases hr : rdL (cutV c).1 with
  | none => rfl
  | some l =>
   have hm := rdL_med hcb.1 (by omega) hr
   simp only [Bool.not_true, cond_false]
   rw [encode_eq hm]
   simp only [Option.bind_some]
   have hb := encV_bytes l
   generalize encV l = q at hb
   obtain ⟨x, e⟩ := q
   simp only at hb ⊢
   by_cases h0 : e = 0
   ·rw [dF (fun g => g h0)]
    unfold bytes_Equal
    rw [bytesS_inj hb hc]
    subst h0
    simp only [cond_false, Option.bind_some]
    by_cases hx : x = c
    ·rw [dT hx, if_pos (by rw [hx])]; rfl
    ·rw [dF hx, if_neg (fun g => hx (Prod.mk.inj g).1)]; rfl
   ·rw [dT h0, if_neg (fun g => h0 (Prod.mk.inj g).2)]; rfl
 ·rw [dT he, if_neg he]; rfl
/-! The document's reader. -/
section
variable {b : List Nat} {p : List Tx} {i : Nat}
end
section
variable {b : List Nat} (hb : bytesP b) (hl : b.length ≤ 50000) {p : List Tx}
include hb hl
end
section
variable {b : List Nat} (hb : bytesP b) (hl : b.length ≤ 50000) {p : List Tx}
include hb hl
end
section
variable {b : List Nat} (hb : bytesP b) (hl : b.length ≤ 50000) {p : List Tx}
include hb hl
end
theorem shown_eq : exerguelaw16_shown = some true := by kernel_rfl
theorem decV_med {c : List Nat} (hc : bytesP c) (hl : c.length ≤ 170000) : Med (decV c).1 := by
 have hz : Med zeroL := ⟨fun n hn => by
  have : n = 0 := by simpa [zeroL] using hn
  omega, ⟨by simp [zeroL], by simp [zeroL]⟩, ⟨by simp [zeroL], by simp [zeroL]⟩, ⟨by simp [zeroL], by simp [zeroL]⟩⟩
 have hcb := cutV_bytes hc
 unfold decV
 split
 ·split
  ·rename_i l h
   split
   ·exact rdL_med hcb.1 (by omega) h
   ·exact hz
  ·exact hz
 ·exact hz
/-! What is written is read. -/
theorem drop_app {l p S : List Nat} {i : Nat} (hp : 0 < p.length) (h : l.drop i = p ++ S) : i + p.length ≤ l.length ∧ l.drop (i + p.length) = S ∧ (l.drop i).take p.length = p := by
 have h1 := congrArg List.length h
 rw [List.length_drop, List.length_append] at h1
 refine ⟨by omega, ?_, ?_⟩
 ·rw [← List.drop_drop, h, List.drop_left]
 ·rw [h, List.take_left]
theorem tk_d {l S : List Nat} {i k : Nat} {n : Int} (hk : sz k) (h0 : 0 ≤ n) (h1 : n < 4294967296) (hn : n.toNat < 256 ^ k) (h : l.drop i = (putS n k).2 ++ S) : tkN l k i = some (n.toNat, i + k) ∧ l.drop (i + k) = S := by
 rw [putS_fit h0 h1 hn] at h
 simp only at h
 have hk4 := sz_le hk
 obtain ⟨a, b, c⟩ := drop_app (by rw [beN_len]; omega) h
 rw [beN_len] at a b c
 unfold tkN
 rw [if_pos a, c, val_be hk hn]
 exact ⟨rfl, b⟩
theorem iE_flat {T : Type} (f : T → List (Int × Nat)) (xs : List T) : iE (xs.flatMap f) = xs.flatMap fun x => iE (f x) := by
 induction xs with
 | nil => rfl
 | cons x xs ih => rw [List.flatMap_cons, iE_app, ih, List.flatMap_cons]
theorem iE_fit : ∀ {I : List (Int × Nat)}, iB I = false → (iE I).length = (I.map Prod.snd).sum
 | [], _ => rfl
 | x :: I, h => by
  rw [iB_cons, Bool.or_eq_false_iff] at h
  have h1 : (putS x.1 x.2).2.length = x.2 := by
   have := h.1
   unfold putS at this ⊢
   split
   ·simp [beN_len]
   ·rename_i hh; rw [if_neg hh] at this; cases this
  rw [iE_cons, List.length_append, h1, iE_fit h.2]; rfl
theorem Ok.bad {l : St28} (h : Ok l) : badL l = false := by
 rw [badL_eq h.m, dT h.p]
 unfold okL
 have e1 : (signsL l.S_).all (fun n => decide (0 ≤ n)) = true := List.all_eq_true.2 fun n hn => dT (h.s n hn)
 have e2 : l.Rules_.all (fun r => bt r.Cat_) = true := List.all_eq_true.2 h.r
 have e3 : l.Curs_.all (fun c => bt c.Digits_) = true := List.all_eq_true.2 h.c
 have e4 : l.Comps_.all (fun c => bt c.Mag_ && bt c.Cat_) = true := List.all_eq_true.2 fun c hc => by rw [(h.k c hc).1, (h.k c hc).2]; rfl
 rw [e1, e2, e3, e4]; rfl
theorem head_len {l : St28} (h : Ok l) : ([69, 88, 76, 66] ++ iE (IH (tabl 56 (secsL l))) : List Nat).length = 56 := by
 have hb := h.bad
 unfold badL at hb
 rw [Bool.or_eq_false_iff] at hb
 rw [List.length_append, iE_fit hb.2]
 unfold IH
 have : ∀ T : List (Int × Int), ((T.flatMap fun r => [(r.1, 4), (r.2, 4)]).map Prod.snd : List Nat).sum = 8 * T.length := fun T => by
  induction T with
  | nil => rfl
  | cons r rs ih => simp only [List.flatMap_cons, List.map_append, List.sum_append, ih, List.map_cons, List.map_nil, List.sum_cons, List.sum_nil, List.length_cons]; omega
 rw [List.map_append, List.sum_append, this, tabl_len]; rfl
theorem summed_len (m : List Nat) : (summed m).length = m.length + 4 := by simp [summed, tailN]
theorem encV_ok {l : St28} (h : Ok l) : encV l = (summed (bytesL l), 0) := by
 unfold encV; rw [h.bad]; rfl
theorem encV_two {l : St28} (hm : Med l) : Ok l ∨ encV l = ([], 1) := by
 rw [encV_eq hm]
 by_cases h : poolP (poolL l) ∧ okL l = true
 ·exact .inl (Ok.of hm h.1 h.2)
 ·rw [if_neg h]; exact .inr rfl
theorem dec_enc {c : List Nat} (h : (decV c).2 = 0) : encV (decV c).1 = (c, 0) := by
 unfold decV at h ⊢
 by_cases he : (cutV c).2 = 0
 ·rw [if_pos he] at h ⊢
  cases hr : rdL (cutV c).1 with
  | none => first | (rw [hr] at h; cases h) | cases h
  | some l =>
   simp only [hr] at h ⊢
   by_cases hx : encV l = (c, 0)
   ·rw [if_pos hx]; exact hx
   ·rw [if_neg hx] at h; cases h
 ·rw [if_neg he] at h; exact absurd h he
theorem dec_zero {c : List Nat} (h : (decV c).2 ≠ 0) : (decV c).1 = zeroL := by
 unfold decV at h ⊢
 by_cases he : (cutV c).2 = 0
 ·rw [if_pos he] at h ⊢
  cases hr : rdL (cutV c).1 with
  | none => rfl
  | some l =>
   simp only [hr] at h ⊢
   by_cases hx : encV l = (c, 0)
   ·rw [if_pos hx] at h; exact absurd rfl h
   ·rw [if_neg hx]
 ·rw [if_neg he]
theorem bytesL_small {l : St28} (h : Ok l) (hr : l.Rules_.length ≤ 8) (hc : l.Curs_.length ≤ 105) (hk : l.Comps_.length ≤ 95) : (bytesL l).length ≤ 140000 := by
 have hh := head_len h
 have hl := (gat_len (textsL l)).1
 rw [textsL_len] at hl
 have hp := h.p
 have e1 : (putPV [] (poolL l)).1 = beN (poolL l).length 2 ++ pbytes (poolL l) := by unfold putPV; rw [if_pos hp]; simp
 have hpb := pbytes_len hp.2.1
 have hpl : (poolL l).length ≤ 318 := by unfold poolL; omega
 have g2 := i2_len (placeL l) l.Tag_ l.S_
 have g3 := i3_len (placeL l) l
 have g4 := I4_len (placeL l) l.Rules_.length l.Rules_
 have g5 := I5_len (placeL l) l.Curs_.length l.Curs_
 have g6 := I6_len (placeL l) l.Comps_.length l.Comps_
 unfold bytesL
 rw [List.length_append, hh]
 unfold secsL i2 i3 i4 i5 i6
 rw [e1]
 simp only [List.flatten_cons, List.flatten_nil, List.length_append, List.length_nil, beN_len]
 omega
theorem summed_bytes (l : St28) : bytesP (summed (bytesL l)) := bytes_append (bytesL_bytes l) (tail_bytes _)
/-! What a bundle's head says. -/
def totH (h : List Nat) : Nat := valN ((h.drop 48).take 4) + valN ((h.drop 52).take 4)
theorem head_drop {l : St28} : (bytesL l).drop 4 = (putS 1 2).2 ++ ((putS 6 2).2 ++ (((tabl 56 (secsL l)).flatMap fun r => (putS r.1 4).2 ++ (putS r.2 4).2) ++ (secsL l).flatten)) := by
 unfold bytesL IH
 rw [List.append_assoc]
 refine (show List.drop 4 ([69, 88, 76, 66] ++ _) = _ from rfl).trans ?_
 simp only [List.cons_append, List.nil_append, iE_cons, iE_flat, List.append_assoc]
 simp [iE]
theorem put_len {n : Int} {k : Nat} (h0 : 0 ≤ n) (h1 : n < 4294967296) (h : n.toNat < 256 ^ k) : (putS n k).2.length = k := by rw [putS_fit h0 h1 h]; simp [beN_len]
theorem rows_d {T : List (Int × Int)} (hf : ∀ r ∈ T, (0 ≤ r.1 ∧ r.1 < 4294967296) ∧ (0 ≤ r.2 ∧ r.2 < 4294967296)) {l S : List Nat} {i : Nat} (h : l.drop i = (T.flatMap fun r => (putS r.1 4).2 ++ (putS r.2 4).2) ++ S) : ∀ k, k ≤ T.length → l.drop (i + 8 * k) = ((T.drop k).flatMap fun r => (putS r.1 4).2 ++ (putS r.2 4).2) ++ S := by
 intro k
 induction k with
 | zero => intro _; simpa using h
 | succ k ih =>
  intro hk
  have h1 := ih (by omega)
  have hx := hf _ (List.getElem_mem (show k < T.length by omega))
  rw [List.drop_eq_getElem_cons (show k < T.length by omega), List.flatMap_cons, List.append_assoc, List.append_assoc] at h1
  have g1 := put_len (k := 4) hx.1.1 hx.1.2 (by omega)
  have g2 := put_len (k := 4) hx.2.1 hx.2.2 (by omega)
  have a1 := (drop_app (by omega) h1).2.1
  rw [g1] at a1
  have a2 := (drop_app (by omega) a1).2.1
  rw [g2] at a2
  rw [show i + 8 * (k + 1) = i + 8 * k + 4 + 4 by omega]; exact a2
theorem row_at {l : St28} (h : Ok l) {k : Nat} (hk : k < 6) : ∃ a b : Nat, ∃ S, (tabl 56 (secsL l))[k]? = some ((a : Int), (b : Int)) ∧ a < 4294967296 ∧ b < 4294967296 ∧ (bytesL l).drop (8 + 8 * k) = (putS (a : Int) 4).2 ++ ((putS (b : Int) 4).2 ++ S) := by
 have hf := tabl_fit (secsL l) 56 (by have := secs_len h.m; omega)
 have hd := head_drop (l := l)
 have g1 : (putS 1 2).2.length = 2 := by decide +kernel
 have g2 : (putS 6 2).2.length = 2 := by decide +kernel
 have a1 := (drop_app (by omega) hd).2.1
 rw [g1] at a1
 have a2 := (drop_app (by omega) a1).2.1
 rw [g2] at a2
 have hT : (tabl 56 (secsL l)).length = 6 := by rw [tabl_len]; rfl
 have h8 := rows_d hf (i := 8) a2 k (by omega)
 rw [List.drop_eq_getElem_cons (show k < (tabl 56 (secsL l)).length by omega), List.flatMap_cons, List.append_assoc, List.append_assoc] at h8
 have hx := hf _ (List.getElem_mem (show k < (tabl 56 (secsL l)).length by omega))
 have hg := List.getElem?_eq_getElem (show k < (tabl 56 (secsL l)).length by omega)
 generalize (tabl 56 (secsL l))[k]'(by omega) = r at h8 hx hg
 obtain ⟨x, y⟩ := r
 obtain ⟨a, rfl⟩ := Int.eq_ofNat_of_zero_le hx.1.1
 obtain ⟨b, rfl⟩ := Int.eq_ofNat_of_zero_le hx.2.1
 exact ⟨a, b, _, hg, by have := hx.1.2; simp only at this; omega, by have := hx.2.2; simp only at this; omega, h8⟩
theorem tabl_at : ∀ (S : List (List Nat)) (i k : Nat), k < S.length → (tabl i S)[k]? = some (((i + (S.take k).flatten.length : Nat) : Int), ((S[k]?.getD []).length : Int))
 | [], _, k, h => by simp at h
 | s :: S, i, 0, _ => by simp [tabl]
 | s :: S, i, k + 1, h => by
  have := tabl_at S (i + s.length) k (by simpa using h)
  unfold tabl
  rw [List.getElem?_cons_succ, this]
  simp [Nat.add_assoc]
theorem flat_take (S : List (List Nat)) {k : Nat} (h : k < S.length) : (S.take (k + 1)).flatten.length = (S.take k).flatten.length + (S[k]?.getD []).length := by
 rw [List.take_succ_eq_append_getElem h, List.flatten_append, List.length_append, List.getElem?_eq_getElem h]; simp
theorem bytesL_56 {l : St28} (h : Ok l) : (bytesL l).length = 56 + (secsL l).flatten.length := by
 unfold bytesL; rw [List.length_append, head_len h]
theorem len_tot {l : St28} (h : Ok l) : (bytesL l).length = totH ((bytesL l).take 56) := by
 obtain ⟨a, b, S, h1, ha, hb, hd⟩ := row_at h (k := 5) (by omega)
 have ht := tabl_at (secsL l) 56 5 (by show 5 < 6; omega)
 have hft := flat_take (secsL l) (k := 5) (by show 5 < 6; omega)
 rw [h1] at ht
 have ht2 := Prod.mk.inj (Option.some.inj ht)
 have e6 : (secsL l).take 6 = secsL l := rfl
 rw [show 5 + 1 = 6 from rfl, e6] at hft
 rw [bytesL_56 h, hft]
 obtain ⟨t1, d1⟩ := tk_d (.inr (.inr rfl)) (by omega) (by omega) (by omega) hd
 obtain ⟨t2, d2⟩ := tk_d (.inr (.inr rfl)) (by omega) (by omega) (by omega) d1
 unfold tkN at t1 t2
 split at t1
 ·split at t2
  ·have v1 := (Prod.mk.inj (Option.some.inj t1)).1
   have v2 := (Prod.mk.inj (Option.some.inj t2)).1
   unfold totH
   rw [List.drop_take, List.drop_take, List.take_take, List.take_take]
   rw [show min 4 (56 - 48) = 4 by omega, show min 4 (56 - 52) = 4 by omega]
   rw [show 8 + 8 * 5 = 48 by omega] at v1 v2
   rw [show 48 + 4 = 52 by omega] at v2
   rw [v1, v2]; omega
  ·cases t2
 ·cases t1
theorem other_bad {l : St28} (h : Ok l) {c : List Nat} (hc : bytesP c) (hl : c.length ≤ 170000) (ht : c.take 56 = (bytesL l).take 56) (hn : c.length ≠ (bytesL l).length + 4) : (decV c).2 ≠ 0 := fun h0 => by
 have he := dec_enc h0
 have hm := decV_med hc hl
 rcases encV_two hm with ho | hb
 ·rw [encV_ok ho] at he
  have hx := (Prod.mk.inj he).1
  have hlen := summed_len (bytesL (decV c).1)
  have h56 := bytesL_56 ho
  rw [hx] at hlen
  have htk : c.take 56 = (bytesL (decV c).1).take 56 := by
   have h9 := congrArg (List.take 56) hx
   unfold summed at h9
   rw [List.take_append_of_le_length (by omega)] at h9
   exact h9.symm
  have e1 := len_tot ho
  rw [← htk, ht, ← len_tot h] at e1
  omega
 ·rw [hb] at he
  have := (Prod.mk.inj he).2
  omega
theorem burst_loop {pre suf : List Nat} {p q r s a b c d : Nat} (hl : bytesP (pre ++ p :: q :: r :: s :: suf)) (ha : a < 256) (hb : b < 256) (hc : c < 256) (hd : d < 256) (hlen : pre.length + suf.length ≤ 4294967290) :
  loopN (fun (s149 : Int × (List Int)) => (bif (decide (s149.1 < 4)) then (bif inR (IntKind.wrap .i64 ((pre.length : Int) + s149.1)) s149.2.length then (bif inR (IntKind.wrap .i64 ((pre.length : Int) + s149.1)) s149.2.length then (bif (decide (s149.1 = 0)) then (bif inR (IntKind.wrap .i64 ((pre.length : Int) + s149.1)) s149.2.length then (bif inR (IntKind.wrap .i64 ((pre.length : Int) + s149.1)) s149.2.length then (some (.inl ((IntKind.wrap .i64 (s149.1 + 1)), (setAt s149.2 (IntKind.wrap .i64 ((pre.length : Int) + s149.1)) ((bits .xor .u8 ((nth s149.2 (IntKind.wrap .i64 ((pre.length : Int) + s149.1)))) (a : Int))))))) else none) else none) else (bif (decide (s149.1 = 1)) then (bif inR (IntKind.wrap .i64 ((pre.length : Int) + s149.1)) s149.2.length then (bif inR (IntKind.wrap .i64 ((pre.length : Int) + s149.1)) s149.2.length then (some (.inl ((IntKind.wrap .i64 (s149.1 + 1)), (setAt s149.2 (IntKind.wrap .i64 ((pre.length : Int) + s149.1)) ((bits .xor .u8 ((nth s149.2 (IntKind.wrap .i64 ((pre.length : Int) + s149.1)))) (b : Int))))))) else none) else none) else (bif (decide (s149.1 = 2)) then (bif inR (IntKind.wrap .i64 ((pre.length : Int) + s149.1)) s149.2.length then (bif inR (IntKind.wrap .i64 ((pre.length : Int) + s149.1)) s149.2.length then (some (.inl ((IntKind.wrap .i64 (s149.1 + 1)), (setAt s149.2 (IntKind.wrap .i64 ((pre.length : Int) + s149.1)) ((bits .xor .u8 ((nth s149.2 (IntKind.wrap .i64 ((pre.length : Int) + s149.1)))) (c : Int))))))) else none) else none) else (bif (decide (s149.1 = 3)) then (bif inR (IntKind.wrap .i64 ((pre.length : Int) + s149.1)) s149.2.length then (bif inR (IntKind.wrap .i64 ((pre.length : Int) + s149.1)) s149.2.length then (some (.inl ((IntKind.wrap .i64 (s149.1 + 1)), (setAt s149.2 (IntKind.wrap .i64 ((pre.length : Int) + s149.1)) ((bits .xor .u8 ((nth s149.2 (IntKind.wrap .i64 ((pre.length : Int) + s149.1)))) (d : Int))))))) else none) else none) else none)))) else none) else none) else (some (.inr s149.2)))) big (0, up (pre ++ p :: q :: r :: s :: suf))
   = some (up (pre ++ (p ^^^ a) :: (q ^^^ b) :: (r ^^^ c) :: (s ^^^ d) :: suf)) := by
 have hp := hl p (by simp)
 have hq := hl q (by simp)
 have hr := hl r (by simp)
 have hs := hl s (by simp)
 generalize hst : (fun (s149 : Int × (List Int)) => (bif (decide (s149.1 < 4)) then (bif inR (IntKind.wrap .i64 ((pre.length : Int) + s149.1)) s149.2.length then (bif inR (IntKind.wrap .i64 ((pre.length : Int) + s149.1)) s149.2.length then (bif (decide (s149.1 = 0)) then (bif inR (IntKind.wrap .i64 ((pre.length : Int) + s149.1)) s149.2.length then (bif inR (IntKind.wrap .i64 ((pre.length : Int) + s149.1)) s149.2.length then (some (.inl ((IntKind.wrap .i64 (s149.1 + 1)), (setAt s149.2 (IntKind.wrap .i64 ((pre.length : Int) + s149.1)) ((bits .xor .u8 ((nth s149.2 (IntKind.wrap .i64 ((pre.length : Int) + s149.1)))) (a : Int))))))) else none) else none) else (bif (decide (s149.1 = 1)) then (bif inR (IntKind.wrap .i64 ((pre.length : Int) + s149.1)) s149.2.length then (bif inR (IntKind.wrap .i64 ((pre.length : Int) + s149.1)) s149.2.length then (some (.inl ((IntKind.wrap .i64 (s149.1 + 1)), (setAt s149.2 (IntKind.wrap .i64 ((pre.length : Int) + s149.1)) ((bits .xor .u8 ((nth s149.2 (IntKind.wrap .i64 ((pre.length : Int) + s149.1)))) (b : Int))))))) else none) else none) else (bif (decide (s149.1 = 2)) then (bif inR (IntKind.wrap .i64 ((pre.length : Int) + s149.1)) s149.2.length then (bif inR (IntKind.wrap .i64 ((pre.length : Int) + s149.1)) s149.2.length then (some (.inl ((IntKind.wrap .i64 (s149.1 + 1)), (setAt s149.2 (IntKind.wrap .i64 ((pre.length : Int) + s149.1)) ((bits .xor .u8 ((nth s149.2 (IntKind.wrap .i64 ((pre.length : Int) + s149.1)))) (c : Int))))))) else none) else none) else (bif (decide (s149.1 = 3)) then (bif inR (IntKind.wrap .i64 ((pre.length : Int) + s149.1)) s149.2.length then (bif inR (IntKind.wrap .i64 ((pre.length : Int) + s149.1)) s149.2.length then (some (.inl ((IntKind.wrap .i64 (s149.1 + 1)), (setAt s149.2 (IntKind.wrap .i64 ((pre.length : Int) + s149.1)) ((bits .xor .u8 ((nth s149.2 (IntKind.wrap .i64 ((pre.length : Int) + s149.1)))) (d : Int))))))) else none) else none) else none)))) else none) else none) else (some (.inr s149.2)) : Option ((Int × (List Int)) ⊕ (List Int)))) = step
 have hbig : big = 18446744073709551611 + 1 + 1 + 1 + 1 + 1 := rfl
 have key : ∀ (k : Int) (P S : List Int) (x v : Int), 0 ≤ k → k < 4 → (P.length : Int) = (pre.length : Int) + k → P.length + S.length ≤ 4294967296 → inR (P.length : Int) (P ++ x :: S).length = true ∧
   IntKind.wrap .i64 ((pre.length : Int) + k) = (P.length : Int) ∧ nth (P ++ x :: S) (P.length : Int) = x ∧ setAt (P ++ x :: S) (P.length : Int) v = P ++ v :: S ∧ IntKind.wrap .i64 (k + 1) = k + 1 := by
  intro k P S x v hk0 hk hP hS
  exact ⟨inR_mid, by rw [hP]; exact w64 (by omega) (by omega), nth_mid, setAt_mid, w64 (by omega) (by omega)⟩
 rw [hbig]
 have s0 : step (0, up pre ++ (p : Int) :: ((q : Int) :: (r : Int) :: (s : Int) :: up suf)) = some (.inl (1, up pre ++ ((p ^^^ a : Nat) : Int) :: ((q : Int) :: (r : Int) :: (s : Int) :: up suf))) := by
  obtain ⟨k1, k2, k3, k4, k5⟩ := key 0 (up pre) ((q : Int) :: (r : Int) :: (s : Int) :: up suf) p ((p ^^^ a : Nat) : Int) (by omega) (by omega) (by rw [up_len]; omega) (by simp [up_len]; omega)
  subst hst
  simp only [k1, k2, k3, k5, u8_xor_nat p a hp ha, k4]
  rfl
 have s1 : step (1, up pre ++ ((p ^^^ a : Nat) : Int) :: ((q : Int) :: (r : Int) :: (s : Int) :: up suf)) = some (.inl (2, up pre ++ ((p ^^^ a : Nat) : Int) :: (((q ^^^ b : Nat) : Int) :: (r : Int) :: (s : Int) :: up suf))) := by
  obtain ⟨k1, k2, k3, k4, k5⟩ := key 1 (up pre ++ [((p ^^^ a : Nat) : Int)]) ((r : Int) :: (s : Int) :: up suf) q ((q ^^^ b : Nat) : Int) (by omega) (by omega) (by simp [up_len] <;> omega) (by simp [up_len]; omega)
  rw [List.append_assoc] at k1 k3 k4
  simp only [List.cons_append, List.nil_append, List.append_assoc] at k1 k2 k3 k4 k5
  subst hst
  simp only [k1, k2, k3, k5, u8_xor_nat q b hq hb, k4]
  rfl
 have s2 : step (2, up pre ++ ((p ^^^ a : Nat) : Int) :: (((q ^^^ b : Nat) : Int) :: (r : Int) :: (s : Int) :: up suf)) = some (.inl (3, up pre ++ ((p ^^^ a : Nat) : Int) :: (((q ^^^ b : Nat) : Int) :: ((r ^^^ c : Nat) : Int) :: (s : Int) :: up suf))) := by
  obtain ⟨k1, k2, k3, k4, k5⟩ := key 2 (up pre ++ [((p ^^^ a : Nat) : Int), ((q ^^^ b : Nat) : Int)]) ((s : Int) :: up suf) r ((r ^^^ c : Nat) : Int) (by omega) (by omega) (by simp [up_len] <;> omega) (by simp [up_len]; omega)
  rw [List.append_assoc] at k1 k3 k4
  simp only [List.cons_append, List.nil_append, List.append_assoc] at k1 k2 k3 k4 k5
  subst hst
  simp only [k1, k2, k3, k5, u8_xor_nat r c hr hc, k4]
  rfl
 have s3 : step (3, up pre ++ ((p ^^^ a : Nat) : Int) :: (((q ^^^ b : Nat) : Int) :: ((r ^^^ c : Nat) : Int) :: (s : Int) :: up suf)) = some (.inl (4, up pre ++ ((p ^^^ a : Nat) : Int) :: (((q ^^^ b : Nat) : Int) :: ((r ^^^ c : Nat) : Int) :: ((s ^^^ d : Nat) : Int) :: up suf))) := by
  obtain ⟨k1, k2, k3, k4, k5⟩ := key 3 (up pre ++ [((p ^^^ a : Nat) : Int), ((q ^^^ b : Nat) : Int), ((r ^^^ c : Nat) : Int)]) (up suf) s ((s ^^^ d : Nat) : Int) (by omega) (by omega) (by simp [up_len] <;> omega) (by simp [up_len]; omega)
  rw [List.append_assoc] at k1 k3 k4
  simp only [List.cons_append, List.nil_append, List.append_assoc] at k1 k2 k3 k4 k5
  subst hst
  simp only [k1, k2, k3, k5, u8_xor_nat s d hs hd, k4]
  rfl
 have s4 : ∀ l, step (4, l) = some (.inr l) := fun l => by subst hst; rfl
 have hu : ∀ w x y z : Nat, up (pre ++ w :: x :: y :: z :: suf) = up pre ++ (w : Int) :: ((x : Int) :: (y : Int) :: (z : Int) :: up suf) := fun w x y z => by rw [up_append]; rfl
 rw [hu, hu, loopN_next s0, loopN_next s1, loopN_next s2, loopN_next s3, loopN_out (s4 _)]
theorem part4 {l : List Nat} {i : Nat} (h : i + 4 ≤ l.length) : ∃ pre p q r s suf, l = pre ++ p :: q :: r :: s :: suf ∧ pre.length = i := by
 have h4 : ((l.drop i).take 4).length = 4 := by simp; omega
 obtain ⟨p, q, r, s, he⟩ := l4 h4
 refine ⟨l.take i, p, q, r, s, (l.drop i).drop 4, ?_, by simp; omega⟩
 have e1 : l = l.take i ++ ((l.drop i).take 4 ++ (l.drop i).drop 4) := by rw [List.take_append_drop, List.take_append_drop]
 rw [he] at e1
 exact e1
end Go.Proofs.Ythhabncebpaheaa
