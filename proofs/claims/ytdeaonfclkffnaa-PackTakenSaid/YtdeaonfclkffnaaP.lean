/-
  What those functions come to, told by plain functions of lists and numbers. Conditions: as each theorem says.
-/
import Derived.Test.YtdeaonfclkffnaaGb
import Derived.Test.YtdeaonfclkffnaaSyZ
import Derived.Laws.BitsAllLaws
namespace Go.Proofs.Ytdeaonfclkffnaa
open Go Go.Sy Go.RowKit Go.ChangeShapes Go.WideShapes Go.ChangeAt
set_option linter.unusedVariables false
set_option linter.unusedSimpArgs false
set_option maxRecDepth 100000

/-- Is it a size? -/
abbrev sz (k : Nat) : Prop := k = 1 ∨ k = 2 ∨ k = 4
def beN (n k : Nat) : List Nat := (List.range k).map fun j => n / 2 ^ (8 * (k - 1 - j)) % 256
def valN (l : List Nat) : Nat := l.foldl (fun a x => a * 256 + x) 0
theorem valN_snoc (l : List Nat) (x : Nat) : valN (l ++ [x]) = valN l * 256 + x := by simp [valN]
theorem beN_len (n k : Nat) : (beN n k).length = k := by simp [beN]
theorem beN_bytes (n k : Nat) : bytesP (beN n k) := fun c hc => by
  unfold beN at hc
  obtain ⟨j, _, rfl⟩ := List.mem_map.1 hc
  omega
theorem beN1 (n : Nat) : beN n 1 = [n % 256] := by simp [beN, List.range, List.range.loop]
theorem beN2 (n : Nat) : beN n 2 = [n / 256 % 256, n % 256] := by simp [beN, List.range, List.range.loop]
theorem beN4 (n : Nat) : beN n 4 = [n / 16777216 % 256, n / 65536 % 256, n / 256 % 256, n % 256] := by simp [beN, List.range, List.range.loop]
theorem val_be {n k : Nat} (hk : sz k) (h : n < 256 ^ k) : valN (beN n k) = n := by
  rcases hk with rfl | rfl | rfl
  · rw [beN1]; simp [valN]; omega
  · rw [beN2]; simp [valN]; omega
  · rw [beN4]; simp [valN]; omega
theorem be_val {l : List Nat} (hl : bytesP l) (hk : sz l.length) : beN (valN l) l.length = l := by
  rcases hk with h | h | h
  · obtain ⟨a, rfl⟩ := l1 h
    have := hl a (by simp)
    show beN _ 1 = _
    rw [beN1]; simp [valN]; omega
  · obtain ⟨a, b, rfl⟩ := l2 h
    have := hl a (by simp); have := hl b (by simp)
    show beN _ 2 = _
    rw [beN2]; simp [valN]; omega
  · obtain ⟨a, b, c, d, rfl⟩ := l4 h
    have := hl a (by simp); have := hl b (by simp); have := hl c (by simp); have := hl d (by simp)
    show beN _ 4 = _
    rw [beN4]; simp [valN]; omega
theorem valN_lt {l : List Nat} (hl : bytesP l) : valN l < 256 ^ l.length := by
  have key : ∀ (k : Nat) (l : List Nat), l.length = k → bytesP l → valN l < 256 ^ k := by
    intro k
    induction k with
    | zero => intro l h _; rw [List.eq_nil_of_length_eq_zero h]; simp [valN]
    | succ k ih =>
      intro l h hb
      rcases List.eq_nil_or_concat l with h0 | ⟨p, c, h0⟩
      · subst h0; simp at h
      · rw [List.concat_eq_append] at h0
        subst h0
        have h1 := ih p (by simp at h; omega) (bytes_left hb)
        have h2 := hb c (by simp)
        rw [valN_snoc, Nat.pow_succ]; omega
  exact key _ l rfl hl
theorem sz_pow {k : Nat} (hk : sz k) : 256 ^ k ≤ 4294967296 := by rcases hk with rfl | rfl | rfl <;> decide
theorem sz_le {k : Nat} (hk : sz k) : 1 ≤ k ∧ k ≤ 4 := by rcases hk with rfl | rfl | rfl <;> decide

theorem clone_eq {xs : List Int} (hl : xs.length ≤ 4294967296) : slices_Clone xs = some xs := by
  unfold slices_Clone; exact clone_id hl
theorem rrow_eq {xs ys : List Int} (hb : xs.length ≤ 4611686018427387904) : exergueref01_Row xs ys = some (decide (xs = ys)) := by
  unfold exergueref01_Row; exact row_eq hb

theorem shift_eq {k i : Nat} (hk : k ≤ 4) (hi : i < k) : IntKind.wrap .i64 (8 * (IntKind.wrap .i64 ((IntKind.wrap .i64 ((k : Int) - 1)) - (i : Int)))) = ((8 * (k - 1 - i) : Nat) : Int) := by
  rw [w64 (n := (k : Int) - 1) (by omega) (by omega), w64 (n := (k : Int) - 1 - i) (by omega) (by omega), w64 (by omega) (by omega)]; omega
theorem fdiv_pow (n s m : Nat) (h : s ≤ m) : Int.fdiv (n : Int) (2 ^ (min ((s : Nat) : Int).toNat m)) = ((n / 2 ^ s : Nat) : Int) := by
  rw [Int.toNat_natCast, Nat.min_eq_left h, Int.fdiv_eq_ediv_of_nonneg _ (by exact_mod_cast Nat.zero_le _)]
  push_cast; rfl

theorem lay_eq {l : List Nat} {n k : Nat} (hk : k ≤ 4) (hl : l.length ≤ 4294967200) : pack_lay (up l) (n : Int) (k : Int) = some (up (l ++ beN n k)) := by
  unfold pack_lay pack_each_s0
  refine bind_of (fun o => o = up (l ++ beN n k)) (loop_count k (fun i => ((i : Int), up (l ++ (List.range i).map fun j => n / 2 ^ (8 * (k - 1 - j)) % 256))) (fun _ => True) _ (by simp) trivial (fun i hi _ => .inl ⟨?_, trivial⟩) (fun _ => ⟨_, by simp only; rw [dF (by omega)]; rfl, rfl⟩) (by omega)) (fun o h => by rw [h])
  simp only
  rw [dT (by omega), shift_eq hk hi]
  unfold pack_lay_1_s0
  have h8 : 8 * (k - 1 - i) ≤ 32 := by omega
  rw [fdiv_pow n _ 32 h8, u8m, room_of (by simp [up_len]; omega), w64 (n := (i : Int) + 1) (by omega) (by omega)]
  have hs : sh ((8 * (k - 1 - i) : Nat) : Int) = true := by simp [sh]; omega
  rw [hs, List.range_succ, List.map_append]
  simp [up]

def putV (l : List Nat) (n k : Nat) : List Nat × Int := if sz k ∧ n < 256 ^ k then (l ++ beN n k, 0) else (l, 1)
theorem sized_eq (k : Nat) : pack_sized (k : Int) = some (decide (sz k)) := by
  unfold pack_sized
  by_cases h1 : k = 1
  · subst h1; rfl
  · by_cases h2 : k = 2
    · subst h2; rfl
    · have e1 : ¬ (k : Int) = 1 := by omega
      have e2 : ¬ (k : Int) = 2 := by omega
      rw [dF e1, dF e2]
      by_cases h4 : k = 4
      · subst h4; rfl
      · rw [dF (show ¬ (k : Int) = 4 by omega), dF (by omega)]; rfl
theorem sized_neg {k : Int} (h : k < 0) : pack_sized k = some false := by
  unfold pack_sized
  rw [dF (show ¬ k = 1 by omega), dF (show ¬ k = 2 by omega), dF (show ¬ k = 4 by omega)]; rfl
theorem pow256 (k : Nat) : 256 ^ k = 2 ^ (8 * k) := by rw [Nat.pow_mul]
theorem put_eq {l : List Nat} {n k : Nat} (hn : n < 4294967296) (hl : l.length ≤ 4294967200) : pack_Put (up l) (n : Int) (k : Int) = some (up (putV l n k).1, (putV l n k).2) := by
  unfold pack_Put putV
  rw [clone_eq (by rw [up_len]; omega), sized_eq]
  simp only [Option.bind_some]
  by_cases hk : sz k
  · have hk4 := sz_le hk
    rw [dT hk, w64 (by omega) (by omega), wu64 (by omega) (by omega)]
    have e8 : (8 : Int) * (k : Int) = ((8 * k : Nat) : Int) := by omega
    rw [e8, fdiv_pow n (8 * k) 64 (by omega)]
    have hs : sh ((8 * k : Nat) : Int) = true := by simp [sh]; omega
    rw [hs]
    simp only [Bool.not_true, cond_false, cond_true]
    by_cases hf : n < 256 ^ k
    · have : n / 2 ^ (8 * k) = 0 := Nat.div_eq_of_lt (by rw [← pow256]; exact hf)
      rw [this, if_pos ⟨hk, hf⟩, dF (by simp)]
      simp only [Option.bind_some, cond_false, joinX]
      rw [lay_eq (by omega) hl]; rfl
    · have : n / 2 ^ (8 * k) ≠ 0 := by
        intro h0
        have h1 := (Nat.div_eq_zero_iff).1 h0
        rw [← pow256] at h1
        rcases h1 with h1 | h1
        · exact absurd h1 (by have := Nat.pow_pos (n := k) (show 0 < 256 by decide); omega)
        · exact hf h1
      rw [if_neg (fun h => hf h.2), dT (by omega)]; rfl
  · rw [dF hk, if_neg (fun h => hk h.1)]; rfl
theorem put_neg {l : List Nat} {n k : Int} (hk : k < 0) (hl : l.length ≤ 4294967200) : pack_Put (up l) n k = some (up l, 1) := by
  unfold pack_Put
  rw [clone_eq (by rw [up_len]; omega), sized_neg hk]; rfl

theorem rput_eq {l : List Nat} {n k : Nat} (hn : n < 4294967296) (hl : l.length ≤ 4294967200) : exergueref09_Put (up l) (n : Int) (k : Int) = some (up (putV l n k).1, (putV l n k).2) := by
  unfold exergueref09_Put putV
  have d : ∀ q : Nat, Int.tdiv (n : Int) (q : Int) = ((n / q : Nat) : Int) := fun q => by rw [Int.tdiv_eq_ediv_of_nonneg (by omega)]; rfl
  have d1 : Int.tdiv (n : Int) 256 = ((n / 256 : Nat) : Int) := d 256
  have d2 : Int.tdiv (n : Int) 65536 = ((n / 65536 : Nat) : Int) := d 65536
  have d3 : Int.tdiv (n : Int) 16777216 = ((n / 16777216 : Nat) : Int) := d 16777216
  have m : ∀ z : Nat, Int.tmod (z : Int) 256 = ((z % 256 : Nat) : Int) := fun z => by rw [Int.tmod_eq_emod_of_nonneg (by omega)]; rfl
  rw [d1, d2, d3, wu32 (n := ((n / 256 : Nat) : Int)) (by omega) (by omega), wu32 (n := ((n / 65536 : Nat) : Int)) (by omega) (by omega), wu32 (n := ((n / 16777216 : Nat) : Int)) (by omega) (by omega), m, m, m]
  simp only [u8m]
  have r0 : room (up l).length = true := room_of (by rw [up_len]; omega)
  have r1 : ∀ ys : List Int, ys.length ≤ 4 → room ((up l).length + ys.length) = true := fun ys h => room_of (by rw [up_len]; omega)
  rw [r0, r1 _ (by simp), r1 _ (by simp), r1 _ (by simp)]
  simp only [cond_true]
  by_cases h1 : k = 1
  · subst h1
    rw [dT (show ((1 : Nat) : Int) = 1 from rfl)]
    by_cases hf : n < 256
    · rw [if_pos ⟨Or.inl rfl, by simpa using hf⟩, dT (show (n : Int) < 256 by omega), beN1, up_append]; rfl
    · rw [if_neg (fun h => hf (by simpa using h.2)), dF (show ¬ (n : Int) < 256 by omega)]; rfl
  · rw [dF (show ¬ (k : Int) = 1 by omega)]
    by_cases h2 : k = 2
    · subst h2
      rw [dT (show ((2 : Nat) : Int) = 2 from rfl)]
      by_cases hf : n < 65536
      · have e1 : ((n / 256 : Nat) : Int) % 256 = ((n / 256 % 256 : Nat) : Int) := by omega
        have e2 : ((n % 256 : Nat) : Int) % 256 = ((n % 256 : Nat) : Int) := by omega
        rw [if_pos ⟨Or.inr (Or.inl rfl), by simpa using hf⟩, dT (show (n : Int) < 65536 by omega), e1, e2, beN2, up_append]; rfl
      · rw [if_neg (fun h => hf (by simpa using h.2)), dF (show ¬ (n : Int) < 65536 by omega)]; rfl
    · rw [dF (show ¬ (k : Int) = 2 by omega)]
      by_cases h4 : k = 4
      · subst h4
        have e0 : ((n / 16777216 : Nat) : Int) % 256 = ((n / 16777216 % 256 : Nat) : Int) := by omega
        have e1 : ((n / 65536 % 256 : Nat) : Int) % 256 = ((n / 65536 % 256 : Nat) : Int) := by omega
        have e2 : ((n / 256 % 256 : Nat) : Int) % 256 = ((n / 256 % 256 : Nat) : Int) := by omega
        have e3 : ((n % 256 : Nat) : Int) % 256 = ((n % 256 : Nat) : Int) := by omega
        rw [if_pos ⟨Or.inr (Or.inr rfl), by simpa using hn⟩, dT (show ((4 : Nat) : Int) = 4 from rfl), e0, e1, e2, e3, beN4, up_append]; rfl
      · rw [dF (show ¬ (k : Int) = 4 by omega), if_neg (fun h => by rcases h.1 with g | g | g <;> contradiction)]; rfl
theorem rput_neg {l : List Nat} {n k : Int} (hk : k < 0) (hl : l.length ≤ 4294967200) : exergueref09_Put (up l) n k = some (up l, 1) := by
  unfold exergueref09_Put
  rw [room_of (by rw [up_len]; omega), dF (show ¬ k = 1 by omega), dF (show ¬ k = 2 by omega), dF (show ¬ k = 4 by omega)]; rfl

def takeV (l : List Nat) (i k : Int) : Int × Int × Int :=
  if ¬ sz k.toNat ∨ k < 0 ∨ i < 0 then (0, 0, 1) else if i + k > l.length then (0, 0, 2) else ((valN ((l.drop i.toNat).take k.toNat) : Nat), i + k, 0)

theorem or_step {v b s : Nat} (hb : b < 256) (h : v * 256 + b < 2 ^ 32) (hs : 2 ^ s * (v * 256 + b) < 2 ^ 32) : (2 ^ (s + 8) * v) ||| (b * 2 ^ s) = 2 ^ s * (v * 256 + b) := by
  have h1 : b * 2 ^ s < 2 ^ (s + 8) := by
    rw [Nat.pow_add]
    have : 2 ^ s * b < 2 ^ s * 256 := Nat.mul_lt_mul_of_pos_left hb (Nat.pow_pos (by decide))
    rw [Nat.mul_comm b]; simpa using this
  rw [← Nat.two_pow_add_eq_or_of_lt h1]
  rw [Nat.pow_add, Nat.mul_add, Nat.mul_comm b, Nat.mul_assoc]
  congr 2
  omega

theorem take_seg {P seg S : List Nat} (hb : bytesP (P ++ seg ++ S)) (hk : sz seg.length) (hl : P.length + seg.length + S.length ≤ 140737488355328) :
    pack_each_s1 (seg.length : Int) 0 (up (P ++ seg ++ S)) (P.length : Int) = some ((valN seg : Nat) : Int) := by
  have hk4 := sz_le hk
  have hsb : bytesP seg := bytes_right (bytes_left hb)
  have hlt := valN_lt hsb
  have hp := sz_pow hk
  unfold pack_each_s1
  rw [loop_fold seg (fun pre => ((pre.length : Int), ((2 ^ (8 * (seg.length - pre.length)) * valN pre : Nat) : Int))) ((valN seg : Nat) : Int)]
  · simp [valN]
  · intro pre x suf h
    have hx : x < 256 := hsb x (by rw [h]; simp)
    have hpl : pre.length < seg.length := by rw [h]; simp
    have hpre : bytesP (pre ++ [x]) := fun y hy => hsb y (by rw [h]; simp at hy ⊢; rcases hy with hy | hy <;> simp [hy])
    have hv := valN_lt hpre
    rw [valN_snoc] at hv
    have hpl2 : (pre ++ [x]).length = pre.length + 1 := by simp
    rw [hpl2] at hv
    have hu : up (P ++ seg ++ S) = up (P ++ pre) ++ (x : Int) :: up (suf ++ S) := by rw [h]; simp [up]
    have hn : nth (up (P ++ seg ++ S)) ((P.length : Int) + pre.length) = (x : Int) := by
      rw [hu]
      have := nth_mid (pre := up (P ++ pre)) (x := (x : Int)) (suf := up (suf ++ S))
      rw [up_len, List.length_append] at this
      simpa using this
    have hR : inR ((P.length : Int) + pre.length) (up (P ++ seg ++ S)).length = true := inR_int (by omega) (by rw [up_len]; simp; omega)
    simp only
    unfold pack_Take_1_s0
    rw [dT (by omega), shift_eq (by omega) hpl, w64 (n := (P.length : Int) + pre.length) (by omega) (by omega)]
    have hs : sh ((8 * (seg.length - 1 - pre.length) : Nat) : Int) = true := by simp [sh]; omega
    rw [hR, hs, hn, wu32 (n := (x : Int)) (by omega) (by omega)]
    generalize hsdef : 8 * (seg.length - 1 - pre.length) = s
    have hs8 : 8 * (seg.length - pre.length) = s + 8 := by omega
    have hs0 : 8 * (seg.length - (pre ++ [x]).length) = s := by rw [hpl2]; omega
    have hs24 : s ≤ 24 := by omega
    have hbig : 2 ^ s * (valN pre * 256 + x) < 2 ^ 32 := by
      have e1 : 256 ^ (pre.length + 1) * 2 ^ s = 256 ^ seg.length := by
        rw [pow256, pow256, ← Nat.pow_add]; congr 1; omega
      have : 2 ^ s * (valN pre * 256 + x) < 2 ^ s * 256 ^ (pre.length + 1) := Nat.mul_lt_mul_of_pos_left hv (Nat.pow_pos (by decide))
      rw [Nat.mul_comm (2 ^ s) (256 ^ (pre.length + 1)), e1] at this
      omega
    have hsmall : valN pre * 256 + x < 2 ^ 32 := Nat.lt_of_le_of_lt (Nat.le_mul_of_pos_left _ (Nat.pow_pos (by decide))) hbig
    have ho := or_step hx hsmall hbig
    have hxs : x * 2 ^ s < 4294967296 := by
      have : x * 2 ^ s ≤ 2 ^ s * (valN pre * 256 + x) := by rw [Nat.mul_comm x]; exact Nat.mul_le_mul_left _ (by omega)
      omega
    have hvs : 2 ^ (s + 8) * valN pre < 4294967296 := by
      have : 2 ^ (s + 8) * valN pre ≤ 2 ^ s * (valN pre * 256 + x) := by
        rw [Nat.pow_add, Nat.mul_assoc]; exact Nat.mul_le_mul_left _ (by omega)
      omega
    have e2 : (x : Int) * (2 ^ (min ((s : Nat) : Int).toNat 32)) = ((x * 2 ^ s : Nat) : Int) := by
      rw [Int.toNat_natCast, Nat.min_eq_left (by omega)]; push_cast; rfl
    rw [hs8, hs0, e2, wu32 (by omega) (by omega), u32_or_nat _ _ hvs hxs, ho, w64 (n := (pre.length : Int) + 1) (by omega) (by omega), valN_snoc, hpl2]
    simp
  · simp only [Nat.sub_self, Nat.mul_zero, Nat.pow_zero, Nat.one_mul]; rw [dF (by omega)]; rfl
  · omega

theorem parts {l : List Nat} {i k : Nat} (h : i + k ≤ l.length) : l = l.take i ++ (l.drop i).take k ++ l.drop (i + k) ∧ (l.take i).length = i ∧ ((l.drop i).take k).length = k := by
  refine ⟨?_, by simp; omega, by simp; omega⟩
  rw [List.append_assoc, ← List.drop_drop, List.take_append_drop, List.take_append_drop]

theorem take_eq {l : List Nat} {i k : Int} (hb : bytesP l) (hl : l.length ≤ 140737488355328) (hi : -9223372036854775808 ≤ i ∧ i < 9223372036854775808) (hk : -9223372036854775808 ≤ k ∧ k < 9223372036854775808) :
    pack_Take (up l) i k = some (takeV l i k) := by
  unfold pack_Take takeV
  by_cases hk0 : k < 0
  · rw [sized_neg hk0, if_pos (.inr (.inl hk0))]; rfl
  · obtain ⟨k, rfl⟩ := Int.eq_ofNat_of_zero_le (show 0 ≤ k by omega)
    rw [sized_eq, Int.toNat_natCast]
    simp only [Option.bind_some]
    by_cases hs : sz k
    · have hk4 := sz_le hs
      rw [dT hs]
      simp only [Bool.not_true, cond_false]
      by_cases hi0 : i < 0
      · rw [dT hi0, if_pos (.inr (.inr hi0))]; rfl
      · rw [dF hi0, if_neg (by rintro (g | g | g); exact g hs; exact hk0 g; exact hi0 g)]
        simp only [Option.bind_some, cond_false, joinX]
        rw [up_len, w64 (n := (l.length : Int) - k) (by omega) (by omega)]
        by_cases hg : i + k > l.length
        · rw [dT (by omega), if_pos hg]; rfl
        · rw [dF (by omega), if_neg hg]
          simp only [cond_false]
          obtain ⟨i, rfl⟩ := Int.eq_ofNat_of_zero_le (show 0 ≤ i by omega)
          obtain ⟨p1, p2, p3⟩ := parts (l := l) (i := i) (k := k) (by omega)
          have ht := take_seg (P := l.take i) (seg := (l.drop i).take k) (S := l.drop (i + k)) (by rw [← p1]; exact hb) (by rw [p3]; exact hs) (by rw [p2, p3, List.length_drop]; omega)
          rw [p2, p3, ← p1] at ht
          rw [ht]
          simp only [Option.bind_some]
          rw [w64 (by omega) (by omega), Int.toNat_natCast]
    · rw [dF hs, if_pos (.inl hs)]; rfl

theorem rtake_eq {l : List Nat} {i k : Int} (hb : bytesP l) (hl : l.length ≤ 140737488355328) (hi : -9223372036854775808 ≤ i ∧ i < 9223372036854775808) (hk : -9223372036854775808 ≤ k ∧ k < 9223372036854775808) :
    exergueref09_Take (up l) i k = some (takeV l i k) := by
  unfold exergueref09_Take takeV
  have hsz : (sz k.toNat ∧ 0 ≤ k) ↔ (k = 1 ∨ k = 2 ∨ k = 4) := by unfold sz; omega
  by_cases hs : k = 1 ∨ k = 2 ∨ k = 4
  · obtain ⟨hs1, hk0⟩ := hsz.2 hs
    obtain ⟨k, rfl⟩ := Int.eq_ofNat_of_zero_le hk0
    rw [Int.toNat_natCast] at hs1 ⊢
    have hk4 := sz_le hs1
    have e1 : (bif (decide (¬ (k : Int) = 1)) then (bif (decide (¬ (k : Int) = 2)) then (bif (decide (¬ (k : Int) = 4)) then (some true) else (some (decide (i < 0)))) else (some (decide (i < 0)))) else (some (decide (i < 0)))) = some (decide (i < 0)) := by
      rcases hs with g | g | g <;> simp [g]
    rw [e1]
    by_cases hi0 : i < 0
    · rw [dT hi0, if_pos (.inr (.inr hi0))]; rfl
    · rw [dF hi0, if_neg (by rintro (g | g | g); exact g hs1; omega; exact hi0 g)]
      simp only [Option.bind_some, cond_false, joinX]
      rw [up_len, w64 (n := (l.length : Int) - i) (by omega) (by omega)]
      by_cases hg : i + k > l.length
      · rw [if_pos hg]
        by_cases hg2 : i > l.length
        · rw [dT hg2]; rfl
        · rw [dF hg2, dT (show (l.length : Int) - i < k by omega)]; rfl
      · rw [if_neg hg, dF (show ¬ i > l.length by omega), dF (show ¬ (l.length : Int) - i < k by omega)]
        simp only [Option.bind_some, cond_false]
        obtain ⟨i, rfl⟩ := Int.eq_ofNat_of_zero_le (show 0 ≤ i by omega)
        obtain ⟨p1, p2, p3⟩ := parts (l := l) (i := i) (k := k) (by omega)
        rw [Int.toNat_natCast]
        have hsb : bytesP ((l.drop i).take k) := bytes_take (bytes_drop hb i) k
        have hlt := valN_lt hsb
        rw [p3] at hlt
        have hp := sz_pow hs1
        refine bind_of (fun o => o = ((valN ((l.drop i).take k) : Nat) : Int)) ⟨_, loop_fold ((l.drop i).take k) (fun pre => (((valN pre : Nat) : Int), (pre.length : Int))) ((valN ((l.drop i).take k) : Nat) : Int) rfl (fun pre x suf h => ?_) (by simp only; rw [dF (by rw [p3]; omega)]; rfl) (by omega), rfl⟩ (fun o h => by rw [h, w64 (by omega) (by omega)])
        have hx : x < 256 := hsb x (by rw [h]; simp)
        have hpl : pre.length < k := by rw [← p3, h]; simp
        have hpre : bytesP (pre ++ [x]) := fun y hy => hsb y (by rw [h]; simp at hy ⊢; rcases hy with hy | hy <;> simp [hy])
        have hv := valN_lt hpre
        rw [valN_snoc] at hv
        have hpl2 : (pre ++ [x]).length = pre.length + 1 := by simp
        rw [hpl2] at hv
        have hmono : 256 ^ (pre.length + 1) ≤ 256 ^ k := Nat.pow_le_pow_right (by decide) (by omega)
        have hl' : l = l.take i ++ (pre ++ x :: suf) ++ l.drop (i + k) := by rw [← h]; exact p1
        have hu : up l = up (l.take i ++ pre) ++ (x : Int) :: up (suf ++ l.drop (i + k)) := (congrArg up hl').trans (by simp [up])
        have hn : nth (up l) ((i : Int) + pre.length) = (x : Int) := by
          rw [hu]
          have := nth_mid (pre := up (l.take i ++ pre)) (x := (x : Int)) (suf := up (suf ++ l.drop (i + k)))
          rw [up_len, List.length_append, p2] at this
          simpa using this
        have hR : inR ((i : Int) + pre.length) (up l).length = true := inR_int (by omega) (by rw [up_len]; omega)
        simp only
        rw [dT (by omega), w64 (n := (i : Int) + pre.length) (by omega) (by omega), ← up_len l, hR, hn, wu32 (n := ((valN pre : Nat) : Int) * 256) (by omega) (by omega), wu32 (n := (x : Int)) (by omega) (by omega), wu32 (by omega) (by omega), w64 (by omega) (by omega), valN_snoc, hpl2]
        simp
  · have e1 : (bif (decide (¬ k = 1)) then (bif (decide (¬ k = 2)) then (bif (decide (¬ k = 4)) then (some true) else (some (decide (i < 0)))) else (some (decide (i < 0)))) else (some (decide (i < 0)))) = some true := by
      rw [dT (show ¬ k = 1 by omega), dT (show ¬ k = 2 by omega), dT (show ¬ k = 4 by omega)]; rfl
    rw [e1, if_pos (by
      by_cases hs1 : sz k.toNat
      · right; left
        have := fun h => hs (hsz.1 ⟨hs1, h⟩)
        omega
      · exact .inl hs1)]; rfl

abbrev Tx := List UInt8
theorem bne_dec {a b : Tx} : (a != b) = decide (¬ a = b) := by by_cases h : a = b <;> simp [h]
theorem rtexts_eq {xs ys : List Tx} (hb : xs.length ≤ 4611686018427387904) : exergueref09_Texts xs ys = some (decide (xs = ys)) := by
  unfold exergueref09_Texts
  simp only [bne_dec]
  exact row_eq hb
theorem rints_eq {xs ys : List Int} (hb : xs.length ≤ 4611686018427387904) : exergueref09_Ints xs ys = some (decide (xs = ys)) := by
  unfold exergueref09_Ints; exact row_eq hb

/-- Where a text stands first. -/
def posOf : List Tx → Tx → Option Nat
  | [], _ => none
  | x :: r, t => if x = t then some 0 else (posOf r t).map (· + 1)
theorem posOf_none {l : List Tx} {t : Tx} : posOf l t = none ↔ ¬ t ∈ l := by
  induction l with
  | nil => simp [posOf]
  | cons x r ih =>
    unfold posOf
    by_cases h : x = t
    · simp [h]
    · rw [if_neg h, Option.map_eq_none_iff, ih]
      simp [Ne.symm h]
theorem posOf_mid {pre suf : List Tx} {t : Tx} (h : posOf pre t = none) : posOf (pre ++ t :: suf) t = some pre.length := by
  induction pre with
  | nil => simp [posOf]
  | cons x r ih =>
    unfold posOf at h
    by_cases hx : x = t
    · rw [if_pos hx] at h; cases h
    · rw [if_neg hx, Option.map_eq_none_iff] at h
      show posOf (x :: (r ++ t :: suf)) t = _
      unfold posOf
      rw [if_neg hx, ih h]; rfl
theorem posOf_lt {l : List Tx} {t : Tx} {i : Nat} (h : posOf l t = some i) : i < l.length ∧ l[i]? = some t := by
  induction l generalizing i with
  | nil => cases h
  | cons x r ih =>
    unfold posOf at h
    by_cases hx : x = t
    · rw [if_pos hx] at h; cases h; simp [hx]
    · rw [if_neg hx] at h
      obtain ⟨j, hj, rfl⟩ := Option.map_eq_some_iff.1 h
      have := ih hj
      simp; exact this
theorem posOf_append {l m : List Tx} {t : Tx} {i : Nat} (h : posOf l t = some i) : posOf (l ++ m) t = some i := by
  induction l generalizing i with
  | nil => cases h
  | cons x r ih =>
    unfold posOf at h
    show posOf (x :: (r ++ m)) t = _
    unfold posOf
    by_cases hx : x = t
    · rw [if_pos hx] at h ⊢; exact h
    · rw [if_neg hx] at h ⊢
      obtain ⟨j, hj, rfl⟩ := Option.map_eq_some_iff.1 h
      rw [ih hj]; rfl
def posI (l : List Tx) (t : Tx) : Int := match posOf l t with
  | some i => (i : Int)
  | none => -1
theorem rat_eq {l : List Tx} {t : Tx} (hl : l.length ≤ 4611686018427387904) : exergueref09_At l t = some (posI l t) := by
  unfold exergueref09_At
  refine bind_of (fun o => (o = .inl () ∧ posOf l t = none) ∨ ∃ i : Nat, o = .inr (i : Int) ∧ posOf l t = some i) (loop_row l (fun pre => (pre.length : Int)) (fun pre => posOf pre t = none) _ rfl rfl (fun pre x suf h hi => ?_) (fun hi => ?_) (by omega)) ?_
  · have hl' : (pre ++ x :: suf).length ≤ 4611686018427387904 := by rw [← h]; omega
    rw [h, lt_mid, inR_mid, nth_mid, w_mid hl']
    by_cases hx : x = t
    · right
      subst hx
      exact ⟨.inr (pre.length : Int), by simp, .inr ⟨pre.length, rfl, posOf_mid hi⟩⟩
    · left
      have hb : (x == t) = false := beq_eq_false_iff_ne.2 hx
      refine ⟨by rw [hb]; rfl, ?_⟩
      rw [posOf_none] at hi ⊢
      simp [hi, Ne.symm hx]
  · exact ⟨.inl (), by rw [lt_end]; rfl, .inl ⟨rfl, hi⟩⟩
  · rintro o (⟨rfl, h⟩ | ⟨i, rfl, h⟩) <;> simp [joinX, posI, h]

/-- Texts kept once, and where they stand. -/
def gst (s : List Tx × List Nat) (t : Tx) : List Tx × List Nat := match posOf s.1 t with
  | some i => (s.1, s.2 ++ [i])
  | none => (s.1 ++ [t], s.2 ++ [s.1.length])
def gat (l : List Tx) : List Tx × List Nat := l.foldl gst ([], [])
theorem gat_snoc (l : List Tx) (t : Tx) : gat (l ++ [t]) = gst (gat l) t := by simp [gat]
theorem snoc_ind {P : List Tx → Prop} (h0 : P []) (hs : ∀ l t, P l → P (l ++ [t])) : ∀ l, P l := by
  have key : ∀ (n : Nat) (l : List Tx), l.length = n → P l := by
    intro n
    induction n with
    | zero => intro l h; rw [List.eq_nil_of_length_eq_zero h]; exact h0
    | succ n ih =>
      intro l h
      rcases List.eq_nil_or_concat l with h1 | ⟨p, c, h1⟩
      · subst h1; simp at h
      · rw [List.concat_eq_append] at h1
        subst h1
        exact hs p c (ih p (by simp at h; omega))
  exact fun l => key _ l rfl
theorem gat_len : ∀ l, (gat l).1.length ≤ l.length ∧ (gat l).2.length = l.length := by
  refine snoc_ind (by simp [gat]) (fun l t ih => ?_)
  rw [gat_snoc]
  unfold gst
  split <;> simp <;> omega
theorem gat_mem : ∀ l t, t ∈ (gat l).1 ↔ t ∈ l := by
  refine snoc_ind (by simp [gat]) (fun l t ih u => ?_)
  rw [gat_snoc]
  unfold gst
  split
  · rename_i i hi
    have hm : t ∈ (gat l).1 := by
      apply Decidable.byContradiction
      intro hn
      rw [posOf_none.2 hn] at hi; cases hi
    simp only [ih u, List.mem_append, List.mem_singleton]
    constructor
    · exact fun h => .inl h
    · rintro (h | rfl)
      · exact h
      · exact (ih u).1 hm
  · simp [ih u]
theorem gat_nodup : ∀ l, (gat l).1.Nodup := by
  refine snoc_ind (by simp [gat]) (fun l t ih => ?_)
  rw [gat_snoc]
  unfold gst
  split
  · exact ih
  · rename_i hn
    rw [posOf_none] at hn
    simp only [List.nodup_append, ih, true_and]
    refine ⟨by simp, fun a ha b hb => ?_⟩
    simp at hb
    subst hb
    intro e; subst e; exact hn ha
theorem gat_full : ∀ l, (gat l).1.length = l.length ↔ l.Nodup := by
  refine snoc_ind (by simp [gat]) (fun l t ih => ?_)
  rw [gat_snoc]
  have hle := (gat_len l).1
  have hnd : (l ++ [t]).Nodup ↔ l.Nodup ∧ ¬ t ∈ l := by
    simp only [List.nodup_append]
    constructor
    · rintro ⟨a, _, c⟩
      exact ⟨a, fun h => c t h t (by simp) rfl⟩
    · rintro ⟨a, b⟩
      refine ⟨a, by simp, fun x hx y hy => ?_⟩
      simp at hy
      subst hy
      intro e; subst e; exact b hx
  rw [hnd]
  unfold gst
  split
  · rename_i i hi
    have hm : t ∈ l := by
      rw [← gat_mem]
      apply Decidable.byContradiction
      intro hn
      rw [posOf_none.2 hn] at hi; cases hi
    simp [hm]; omega
  · rename_i hn
    rw [posOf_none, gat_mem] at hn
    simp [hn, ih]
/-- Spread, they are what they were. -/
theorem gat_back : ∀ l i, i < l.length → ∃ j, (gat l).2[i]? = some j ∧ (gat l).1[j]? = l[i]? := by
  refine snoc_ind (by simp) (fun l t ih i hi => ?_)
  rw [gat_snoc]
  have hl2 := (gat_len l).2
  unfold gst
  by_cases hil : i < l.length
  · obtain ⟨j, h1, h2⟩ := ih i hil
    have hj : j < (gat l).1.length := by
      rw [List.getElem?_eq_getElem hil] at h2
      exact (List.getElem?_eq_some_iff.1 h2).1
    split
    · exact ⟨j, by simp only; rw [List.getElem?_append_left (by omega)]; exact h1, by rw [List.getElem?_append_left hil]; exact h2⟩
    · exact ⟨j, by simp only; rw [List.getElem?_append_left (by omega)]; exact h1, by simp only; rw [List.getElem?_append_left hj, List.getElem?_append_left hil]; exact h2⟩
  · have hie : i = l.length := by simp at hi; omega
    subst hie
    split
    · rename_i j hj
      exact ⟨j, by simp only; rw [List.getElem?_append_right (by omega), hl2]; simp, by simp only; rw [(posOf_lt hj).2]; simp⟩
    · exact ⟨(gat l).1.length, by simp only; rw [List.getElem?_append_right (by omega), hl2]; simp, by simp⟩

def mkF : Nat → List Tx → List (St72 × Int)
  | _, [] => []
  | k, t :: r => (⟨t⟩, (k : Int)) :: mkF (k + 1) r
theorem mkF_snoc (l : List Tx) (t : Tx) : ∀ k, mkF k (l ++ [t]) = mkF k l ++ [(⟨t⟩, ((k + l.length : Nat) : Int))] := by
  induction l with
  | nil => intro k; rfl
  | cons x r ih => intro k; simp [mkF, ih]; omega
theorem mget_mkF (l : List Tx) (t : Tx) : ∀ k, mget (fun a b : St72 => ((a.text_ == b.text_) && true)) (mkF k l) ⟨t⟩ = (posOf l t).map fun i => ((k + i : Nat) : Int) := by
  induction l with
  | nil => intro k; rfl
  | cons x r ih =>
    intro k
    unfold mkF mget posOf
    by_cases h : x = t
    · subst h; simp
    · have h' : ¬ t = x := fun e => h e.symm
      rw [ih (k + 1), if_neg h]
      have hb : ((t == x) && true) = false := by rw [beq_eq_false_iff_ne.2 h']; rfl
      simp only [hb, cond_false]
      cases posOf r t with
      | none => rfl
      | some j => simp only [Option.map_some, Option.some.injEq]; omega

theorem gather_eq {l : List Tx} (hl : l.length ≤ 4294967290) : pack_Gather l = some ((gat l).1, up (gat l).2) := by
  unfold pack_Gather
  refine bind_of (fun o => o = ((gat l).1, up (gat l).2)) ⟨_, loop_fold l (fun pre => ((pre.length : Int), (gat pre).1, up (gat pre).2, mkF 0 (gat pre).1)) _ rfl (fun pre x suf h => ?_) (by simp only; rw [lt_end]; rfl) (by omega), rfl⟩ (fun o h => by rw [h])
  have hl' : (pre ++ x :: suf).length ≤ 4611686018427387904 := by rw [← h]; omega
  have hpl : pre.length < l.length := by rw [h]; simp
  have hg := gat_len pre
  simp only
  rw [h, lt_mid, inR_mid, nth_mid, w_mid hl', mget_mkF, gat_snoc]
  unfold gst
  cases hp : posOf (gat pre).1 x with
  | some i =>
    simp only [Option.map_some, Option.isSome_some, Bool.not_true, cond_false, cond_true, Option.bind_some, Option.getD_some, Nat.zero_add]
    rw [room_of (by rw [up_len]; simp; omega), up_append]; rfl
  | none =>
    simp only [Option.map_none, Option.isSome_none, Option.isNone_none, Bool.not_false, cond_true, Option.bind_some]
    rw [room_of (by simp; omega), mkF_snoc, Nat.zero_add]
    simp only [cond_true, Option.bind_some]
    rw [room_of (by rw [up_len]; simp; omega), up_append]; rfl
theorem rgather_eq {l : List Tx} (hl : l.length ≤ 4294967290) : exergueref09_Gather l = some ((gat l).1, up (gat l).2) := by
  unfold exergueref09_Gather
  refine bind_of (fun o => o = ((gat l).1, up (gat l).2)) ⟨_, loop_fold l (fun pre => ((pre.length : Int), (gat pre).1, up (gat pre).2)) _ rfl (fun pre x suf h => ?_) (by simp only; rw [lt_end]; rfl) (by omega), rfl⟩ (fun o h => by rw [h])
  have hl' : (pre ++ x :: suf).length ≤ 4611686018427387904 := by rw [← h]; omega
  have hpl : pre.length < l.length := by rw [h]; simp
  have hg := gat_len pre
  simp only
  rw [h, lt_mid, inR_mid, nth_mid, w_mid hl', rat_eq (by omega), gat_snoc]
  unfold gst posI
  cases hp : posOf (gat pre).1 x with
  | some i =>
    simp only [cond_true, Option.bind_some]
    rw [dF (by omega)]
    simp only [cond_false, Option.bind_some]
    rw [room_of (by rw [up_len]; simp; omega), up_append]; rfl
  | none =>
    simp only [cond_true, Option.bind_some]
    rw [dT (by omega), room_of (by simp; omega)]
    simp only [cond_true, Option.bind_some]
    rw [room_of (by rw [up_len]; simp; omega), up_append]; rfl

def okR (pool : List Tx) (r : Int) : Bool := decide (0 ≤ r) && decide (r < pool.length)
def sprV (pool : List Tx) (refs : List Int) : List Tx × Int := if refs.all (okR pool) = true then (refs.map fun r => nth pool r, 0) else ([], 7)
theorem spread_eq {pool : List Tx} {refs : List Int} (hl : refs.length ≤ 4294967290) : pack_Spread pool refs = some (sprV pool refs) := by
  unfold pack_Spread
  rw [loop_all (okR pool) refs (fun pre => ((pre.length : Int), pre.map fun r => nth pool r)) (.inl (refs.map fun r => nth pool r)) (.inr ([], 7))]
  · unfold sprV
    cases refs.all (okR pool) <;> rfl
  · rfl
  · intro pre x suf h
    have hl' : (pre ++ x :: suf).length ≤ 4611686018427387904 := by rw [← h]; omega
    have hpl : pre.length < refs.length := by rw [h]; simp
    simp only
    rw [h, lt_mid, inR_mid, nth_mid, w_mid hl', room_of (by simp; omega)]
    unfold okR
    by_cases h1 : 0 ≤ x
    · by_cases h2 : x < pool.length
      · rw [inR_int h1 h2, dF (show ¬ x < 0 by omega), dF (show ¬ x ≥ pool.length by omega), dT h1, dT h2]; simp [joinX]
      · rw [dF (show ¬ x < 0 by omega), dT (show x ≥ pool.length by omega), dF h2]; simp [joinX]
    · rw [dT (show x < 0 by omega), dF h1]; simp [joinX]
  · simp only; rw [lt_end]; rfl
  · omega
theorem rspread_eq {pool : List Tx} {refs : List Int} (hl : refs.length ≤ 4294967290) : exergueref09_Spread pool refs = some (sprV pool refs) := by
  unfold exergueref09_Spread
  rw [loop_all (okR pool) refs (fun pre => ((pre.length : Int), pre.map fun r => nth pool r)) (.inl (refs.map fun r => nth pool r)) (.inr ([], 7))]
  · unfold sprV
    cases refs.all (okR pool) <;> rfl
  · rfl
  · intro pre x suf h
    have hl' : (pre ++ x :: suf).length ≤ 4611686018427387904 := by rw [← h]; omega
    have hpl : pre.length < refs.length := by rw [h]; simp
    simp only
    rw [h, lt_mid, inR_mid, nth_mid, w_mid hl', room_of (by simp; omega)]
    unfold okR
    by_cases h1 : 0 ≤ x
    · by_cases h2 : x < pool.length
      · rw [inR_int h1 h2, dF (show ¬ x < 0 by omega), dF (show ¬ x ≥ pool.length by omega), dT h1, dT h2]; simp [joinX]
      · rw [dF (show ¬ x < 0 by omega), dT (show x ≥ pool.length by omega), dF h2]; simp [joinX]
    · rw [dT (show x < 0 by omega), dF h1]; simp [joinX]
  · simp only; rw [lt_end]; rfl
  · omega

def tot (l : List Tx) : Nat := (l.map List.length).sum
theorem tot_snoc (l : List Tx) (t : Tx) : tot (l ++ [t]) = tot l + t.length := by simp [tot]
theorem exists_bind {α β : Type} {x : Option α} {k : α → Option β} {Q : β → Prop} (post : α → Prop) (h : ∃ o, x = some o ∧ post o) (hk : ∀ o, post o → ∃ b, k o = some b ∧ Q b) : ∃ b, Option.bind x k = some b ∧ Q b := by
  obtain ⟨o, rfl, h2⟩ := h
  exact hk o h2
theorem short_eq {l : List Tx} (hl : l.length ≤ 140737488355328) (ht : ∀ t ∈ l, t.length ≤ 140737488355328) : ∃ b, exergueref09_Short l = some b ∧ (b = true → l.length ≤ 600 ∧ tot l ≤ 20000) := by
  unfold exergueref09_Short
  refine exists_bind (fun o : Unit ⊕ Bool => o = .inl () ∧ l.length ≤ 600 ∧ tot l ≤ 20000 ∨ o = .inr false) (loop_row l (fun pre => (((tot pre : Nat) : Int), (pre.length : Int))) (fun pre => pre.length ≤ 600 ∧ tot pre ≤ 20000) _ rfl (by simp [tot]) (fun pre x suf h hi => ?_) (fun hi => ⟨.inl (), by simp only; rw [lt_end]; rfl, .inl ⟨rfl, hi.1, hi.2⟩⟩) (by omega)) ?_
  · have hl' : (pre ++ x :: suf).length ≤ 4611686018427387904 := by rw [← h]; omega
    have hx := ht x (by rw [h]; simp)
    simp only
    rw [h, lt_mid, inR_mid, nth_mid, w_mid hl', w64 (by omega) (by omega)]
    by_cases g1 : (pre.length : Int) ≥ 600
    · right
      exact ⟨.inr false, by rw [dT g1]; rfl, .inr rfl⟩
    · rw [dF g1]
      by_cases g2 : (tot pre : Int) + x.length > 20000
      · right
        exact ⟨.inr false, by rw [dT g2]; rfl, .inr rfl⟩
      · left
        rw [dF g2, tot_snoc]
        refine ⟨?_, by simp; omega, by omega⟩
        simp [joinX]
  · rintro o (⟨rfl, h2⟩ | rfl)
    · exact ⟨true, rfl, fun _ => h2⟩
    · exact ⟨false, rfl, fun h => by cases h⟩

abbrev poolP (l : List Tx) : Prop := l.length ≤ 500 ∧ (∀ t ∈ l, t.length ≤ 400) ∧ l.Nodup
theorem pool_eq {l : List Tx} (hl : l.length ≤ 4294967290) : pack_isPool l = some (decide (poolP l)) := by
  unfold pack_isPool
  by_cases h : l.length ≤ 500
  · rw [dF (show ¬ (l.length : Int) > 500 by omega), all_loop (fun t : Tx => decide ((t.length : Int) > 400)) l (by omega)]
    simp only [cond_false]
    by_cases ha : ∀ t ∈ l, t.length ≤ 400
    · have e : l.all (fun c => !decide ((c.length : Int) > 400)) = true := by
        rw [List.all_eq_true]
        intro t ht
        have := ha t ht
        simp; omega
      rw [if_pos e]
      simp only [Option.bind_some, joinX]
      rw [gather_eq (by omega)]
      simp only [Option.bind_some]
      congr 1
      have := gat_full l
      by_cases hn : l.Nodup
      · rw [dT (by have := this.2 hn; omega), dT ⟨h, ha, hn⟩]
      · rw [dF (fun e => hn (this.1 (by omega))), dF (fun e => hn e.2.2)]
    · have e : ¬ l.all (fun c => !decide ((c.length : Int) > 400)) = true := by
        intro hx
        rw [List.all_eq_true] at hx
        exact ha fun t ht => by have := hx t ht; simp at this; omega
      rw [if_neg e, dF (fun q => ha q.2.1)]; rfl
  · rw [dT (show (l.length : Int) > 500 by omega), dF (fun q => h q.1)]; rfl
theorem rpool_eq {l : List Tx} (hl : l.length ≤ 4294967290) : exergueref09_Pool l = some (decide (poolP l)) := by
  unfold exergueref09_Pool
  by_cases h : l.length ≤ 500
  · rw [dF (show ¬ (l.length : Int) > 500 by omega)]
    simp only [cond_false]
    refine bind_of (fun o => (o = .inl () ∧ poolP l) ∨ (o = .inr false ∧ ¬ poolP l)) (loop_row l (fun pre => (pre.length : Int)) (fun pre => (∀ t ∈ pre, t.length ≤ 400) ∧ pre.Nodup) _ rfl (by simp) (fun pre x suf hx hi => ?_) (fun hi => ⟨.inl (), by rw [lt_end]; rfl, .inl ⟨rfl, h, hi.1, hi.2⟩⟩) (by omega)) ?_
    · have hl' : (pre ++ x :: suf).length ≤ 4611686018427387904 := by rw [← hx]; omega
      rw [rat_eq (by omega)]
      have hpos : (posI (pre ++ x :: suf) x < (pre.length : Int) ↔ x ∈ pre) := by
        unfold posI
        cases hp : posOf pre x with
        | none =>
          have h1 := posOf_mid (suf := suf) hp
          rw [h1]
          simp only [posOf_none.1 hp, iff_false]; omega
        | some j =>
          have h1 := posOf_append (m := x :: suf) hp
          have h2 := posOf_lt hp
          have h3 : x ∈ pre := by
            apply Decidable.byContradiction
            intro hn
            rw [posOf_none.2 hn] at hp; cases hp
          rw [h1]
          simp only [h3, iff_true]; omega
      rw [hx, lt_mid, inR_mid, nth_mid, w_mid hl']
      generalize posI (pre ++ x :: suf) x = P at hpos
      by_cases g1 : (x.length : Int) > 400
      · right
        exact ⟨.inr false, by rw [dT g1]; rfl, .inr ⟨rfl, fun q => by have := q.2.1 x (by simp); omega⟩⟩
      · by_cases g2 : x ∈ pre
        · right
          refine ⟨.inr false, by rw [dF g1]; simp only [Option.bind_some, cond_false, cond_true]; rw [dT (hpos.2 g2)]; rfl, .inr ⟨rfl, fun q => ?_⟩⟩
          have hn := q.2.2
          simp only [List.nodup_append] at hn
          exact hn.2.2 x g2 x (by simp) rfl
        · left
          refine ⟨by rw [dF g1]; simp only [Option.bind_some, cond_false, cond_true]; rw [dF (fun q => g2 (hpos.1 q))]; rfl, ?_, ?_⟩
          · intro t ht
            rcases List.mem_append.1 ht with ht | ht
            · exact hi.1 t ht
            · simp at ht; subst ht; omega
          · simp only [List.nodup_append]
            refine ⟨hi.2, by simp, fun a ha b hb => ?_⟩
            simp at hb
            subst hb
            intro e; subst e; exact g2 ha
    · rintro o (⟨rfl, hp⟩ | ⟨rfl, hp⟩)
      · rw [dT hp]; rfl
      · rw [dF hp]; rfl
  · rw [dT (show (l.length : Int) > 500 by omega), dF (fun q => h q.1)]; rfl

def pbytes (l : List Tx) : List Nat := l.flatMap fun t => beN t.length 2 ++ t.map UInt8.toNat
theorem pbytes_snoc (l : List Tx) (t : Tx) : pbytes (l ++ [t]) = pbytes l ++ (beN t.length 2 ++ t.map UInt8.toNat) := by simp [pbytes]
theorem pbytes_len {l : List Tx} (h : ∀ t ∈ l, t.length ≤ 400) : (pbytes l).length ≤ 402 * l.length := by
  induction l with
  | nil => simp [pbytes]
  | cons t l ih =>
    have h1 := h t (by simp)
    have h2 := ih (fun x hx => h x (by simp [hx]))
    simp only [pbytes, List.flatMap_cons, List.length_append, beN_len, List.length_map, List.length_cons] at h2 ⊢
    omega
theorem pbytes_bytes (l : List Tx) : bytesP (pbytes l) := fun c hc => by
  unfold pbytes at hc
  obtain ⟨t, _, ht⟩ := List.mem_flatMap.1 hc
  rcases List.mem_append.1 ht with ht | ht
  · exact beN_bytes _ _ c ht
  · exact text_bytesP t c ht
def putPV (b : List Nat) (l : List Tx) : List Nat × Int := if poolP l then (b ++ (beN l.length 2 ++ pbytes l), 0) else (b, 1)
theorem lay2_eq {l : List Nat} {n : Nat} (hl : l.length ≤ 4294967200) : pack_lay (up l) (n : Int) 2 = some (up (l ++ beN n 2)) := lay_eq (k := 2) (by omega) hl
theorem putp_eq {b : List Nat} {l : List Tx} (hb : b.length ≤ 4000000000) (hl : l.length ≤ 4294967290) : pack_PutPool (up b) l = some (up (putPV b l).1, (putPV b l).2) := by
  unfold pack_PutPool putPV
  rw [clone_eq (by rw [up_len]; omega), pool_eq hl]
  simp only [Option.bind_some]
  by_cases hp : poolP l
  · rw [dT hp, if_pos hp]
    simp only [Bool.not_true, cond_false]
    rw [wu32 (n := (l.length : Int)) (by omega) (by omega), lay2_eq (by omega)]
    simp only [Option.bind_some]
    refine bind_of (fun o => o = up (b ++ (beN l.length 2 ++ pbytes l))) ⟨_, loop_fold l (fun pre => ((pre.length : Int), up (b ++ (beN l.length 2 ++ pbytes pre)))) _ (by simp [pbytes]) (fun pre x suf h => ?_) (by simp only; rw [lt_end]; rfl) (by omega), rfl⟩ (fun o h => by rw [h])
    have hl' : (pre ++ x :: suf).length ≤ 4611686018427387904 := by rw [← h]; omega
    have hx := hp.2.1 x (by rw [h]; simp)
    have hpre : ∀ t ∈ pre, t.length ≤ 400 := fun t ht => hp.2.1 t (by rw [h]; simp [ht])
    have hpb := pbytes_len hpre
    have hpl : pre.length < l.length := by rw [h]; simp
    have hbl : (b ++ (beN l.length 2 ++ pbytes pre)).length = b.length + (2 + (pbytes pre).length) := by simp [beN_len]
    have hlen : l.length ≤ 500 := hp.1
    generalize hL : beN l.length 2 = L at hbl
    simp only
    rw [h, lt_mid, inR_mid, nth_mid, w_mid hl', wu32 (n := (x.length : Int)) (by omega) (by omega), lay2_eq (by omega)]
    simp only [Option.bind_some, cond_true]
    rw [room_of (by rw [up_len, List.length_append, hbl, beN_len]; omega), bytes_of_text, ← up_append, pbytes_snoc]
    simp
  · rw [dF hp, if_neg hp]; rfl
theorem be2_int {n : Nat} (h : n ≤ 65535) : [IntKind.wrap .u8 (IntKind.wrap .i64 (Int.tdiv (n : Int) 256)), IntKind.wrap .u8 (Int.tmod (n : Int) 256)] = up (beN n 2) := by
  have d1 : Int.tdiv (n : Int) 256 = ((n / 256 : Nat) : Int) := by rw [Int.tdiv_eq_ediv_of_nonneg (by omega)]; rfl
  have m1 : Int.tmod (n : Int) 256 = ((n % 256 : Nat) : Int) := by rw [Int.tmod_eq_emod_of_nonneg (by omega)]; rfl
  rw [d1, m1, w64 (by omega) (by omega), w8 (by omega) (by omega), w8 (by omega) (by omega), beN2]
  have : n / 256 % 256 = n / 256 := by omega
  rw [this]; rfl
theorem rputp_eq {b : List Nat} {l : List Tx} (hb : b.length ≤ 4000000000) (hl : l.length ≤ 4294967290) : exergueref09_PutPool (up b) l = some (up (putPV b l).1, (putPV b l).2) := by
  unfold exergueref09_PutPool putPV
  rw [rpool_eq hl]
  simp only [Option.bind_some]
  by_cases hp : poolP l
  · have hlen : l.length ≤ 500 := hp.1
    rw [dT hp, if_pos hp, be2_int (by omega), room_of (by rw [up_len]; omega), room_of (by rw [up_len, up_len, beN_len]; omega), ← up_append]
    simp only [Bool.not_true, cond_false, cond_true]
    refine bind_of (fun o => o = up (b ++ (beN l.length 2 ++ pbytes l))) ⟨_, loop_fold l (fun pre => ((pre.length : Int), up (b ++ (beN l.length 2 ++ pbytes pre)))) _ (by simp [pbytes]) (fun pre x suf h => ?_) (by simp only; rw [lt_end]; rfl) (by omega), rfl⟩ (fun o h => by rw [h])
    have hl' : (pre ++ x :: suf).length ≤ 4611686018427387904 := by rw [← h]; omega
    have hx := hp.2.1 x (by rw [h]; simp)
    have hpre : ∀ t ∈ pre, t.length ≤ 400 := fun t ht => hp.2.1 t (by rw [h]; simp [ht])
    have hpb := pbytes_len hpre
    have hpl : pre.length < l.length := by rw [h]; simp
    have hbl : (b ++ (beN l.length 2 ++ pbytes pre)).length = b.length + (2 + (pbytes pre).length) := by simp [beN_len]
    generalize hL : beN l.length 2 = L at hbl
    simp only
    rw [h, lt_mid, inR_mid, nth_mid, w_mid hl', be2_int (by omega), bytes_of_text, ← up_append, ← up_append, pbytes_snoc]
    rw [room_of (by rw [up_len, up_len, hbl, beN_len]; omega), room_of (by rw [up_len, up_len, List.length_append, hbl, beN_len, List.length_map]; omega)]
    simp
  · rw [dF hp, if_neg hp]; rfl

def tText (l : List Nat) (i : Nat) : Option (Tx × Nat) :=
  if i + 2 ≤ l.length then (if i + 2 + valN ((l.drop i).take 2) ≤ l.length then some (((l.drop (i + 2)).take (valN ((l.drop i).take 2))).map UInt8.ofNat, i + 2 + valN ((l.drop i).take 2)) else none) else none
theorem val2_lt {l : List Nat} (hb : bytesP l) (i : Nat) : valN ((l.drop i).take 2) < 65536 := by
  have h1 := valN_lt (bytes_take (bytes_drop hb i) 2)
  have h2 : ((l.drop i).take 2).length ≤ 2 := by rw [List.length_take]; omega
  have : 256 ^ ((l.drop i).take 2).length ≤ 256 ^ 2 := Nat.pow_le_pow_right (by decide) h2
  omega
theorem cut_text {l : List Nat} {i n : Nat} : cut (up l) (i : Int) ((i : Int) + (n : Int)) = up ((l.drop i).take n) := by
  have e : (i : Int) + (n : Int) = ((i + n : Nat) : Int) := by omega
  rw [e, cut_up, List.drop_take]
  congr 2; omega
theorem ttext_eq {l : List Nat} {i : Nat} (hb : bytesP l) (hl : l.length ≤ 140737488355328) (hi : i ≤ 140737488355328) : pack_takeText (up l) (i : Int) = some (match tText l i with
    | some (t, j) => (t, (j : Int), 0)
    | none => ([], 0, 2)) := by
  unfold pack_takeText
  rw [take_eq hb hl (by omega) (by omega)]
  have hv := val2_lt hb i
  unfold takeV tText
  rw [if_neg (by rintro (g | g | g) <;> first | exact g (by decide) | omega)]
  simp only [Option.bind_some, Int.toNat_natCast]
  have e2 : (2 : Int).toNat = 2 := rfl
  rw [e2]
  by_cases h1 : i + 2 ≤ l.length
  · rw [if_neg (by omega), if_pos h1]
    simp only [not_true_eq_false, decide_false, cond_false]
    generalize hn : valN ((l.drop i).take 2) = n at hv
    rw [up_len, w64 (n := (n : Int)) (by omega) (by omega), w64 (n := (l.length : Int) - ((i : Int) + 2)) (by omega) (by omega), w64 (n := (i : Int) + 2 + n) (by omega) (by omega)]
    by_cases h2 : i + 2 + n ≤ l.length
    · rw [dF (by omega), if_pos h2, inS_of (by omega) (by omega) (by omega)]
      simp only [cond_false, cond_true]
      have e : (i : Int) + 2 = ((i + 2 : Nat) : Int) := by omega
      rw [e, cut_text, text_of_bytes]
      simp
    · rw [dT (by omega), if_neg h2]; rfl
  · rw [if_pos (by omega), if_neg h1]; rfl

/-- So many texts, one behind the other. -/
def tpi (l : List Nat) (i0 : Nat) : Nat → Option (List Tx × Nat)
  | 0 => some ([], i0)
  | m + 1 => match tpi l i0 m with
    | some (p, i) => match tText l i with
      | some (t, j) => some (p ++ [t], j)
      | none => none
    | none => none
theorem tpi_none {l : List Nat} {i0 m : Nat} (h : tpi l i0 m = none) : ∀ k, tpi l i0 (m + k) = none
  | 0 => h
  | k + 1 => by
    show tpi l i0 ((m + k) + 1) = none
    unfold tpi
    rw [tpi_none h k]
theorem tText_le {l : List Nat} {i j : Nat} {t : Tx} (h : tText l i = some (t, j)) : i + 2 ≤ j ∧ j ≤ l.length := by
  unfold tText at h
  split at h
  · split at h
    · cases h; omega
    · cases h
  · cases h
theorem tpi_facts {l : List Nat} {i0 : Nat} (h0 : i0 ≤ l.length) : ∀ (m : Nat) {p : List Tx} {i : Nat}, tpi l i0 m = some (p, i) → i ≤ l.length ∧ p.length = m ∧ i0 ≤ i
  | 0, p, i, h => by cases h; simp; exact h0
  | m + 1, p, i, h => by
    unfold tpi at h
    split at h
    · rename_i p' i' h1
      split at h
      · rename_i t j h2
        cases h
        have := tpi_facts h0 m h1
        have := tText_le h2
        simp; omega
      · cases h
    · cases h

def tpV (l : List Nat) (i : Int) : List Tx × Int × Int :=
  if i < 0 then ([], 0, 1) else if i + 2 > l.length then ([], 0, 2) else match tpi l (i.toNat + 2) (valN ((l.drop i.toNat).take 2)) with
    | none => ([], 0, 2)
    | some (p, j) => if poolP p then (p, (j : Int), 0) else ([], 0, 2)

theorem takep_eq {l : List Nat} {i : Int} (hb : bytesP l) (hl : l.length ≤ 140737488355328) (hi : -9223372036854775808 ≤ i ∧ i < 9223372036854775808) : pack_TakePool (up l) i = some (tpV l i) := by
  unfold pack_TakePool tpV
  rw [take_eq hb hl hi (by omega)]
  simp only [Option.bind_some]
  by_cases h0 : i < 0
  · unfold takeV
    rw [if_pos (.inr (.inr h0)), if_pos h0]; rfl
  · obtain ⟨i, rfl⟩ := Int.eq_ofNat_of_zero_le (show 0 ≤ i by omega)
    have hv := val2_lt hb i
    unfold takeV
    rw [if_neg (by rintro (g | g | g) <;> first | exact g (by decide) | omega), if_neg h0]
    simp only [Int.toNat_natCast]
    have e2 : (2 : Int).toNat = 2 := rfl
    rw [e2]
    by_cases h1 : (i : Int) + 2 > l.length
    · rw [if_pos h1, if_pos h1]; rfl
    · rw [if_neg h1, if_neg h1]
      simp only [not_true_eq_false, decide_false, cond_false]
      generalize hn : valN ((l.drop i).take 2) = n at hv
      rw [w64 (n := (n : Int)) (by omega) (by omega)]
      have hf := fun m {p} {j} => tpi_facts (l := l) (i0 := i + 2) (by omega) m (p := p) (i := j)
      refine bind_of (fun o => (∃ p j, o = .inl (((j : Nat) : Int), p) ∧ tpi l (i + 2) n = some (p, j)) ∨ (o = .inr ([], 0, 2) ∧ tpi l (i + 2) n = none))
        (loop_count n (fun m => match tpi l (i + 2) m with
          | some (p, j) => ((j : Int), (m : Int), p)
          | none => (0, 0, [])) (fun m => ∃ p j, tpi l (i + 2) m = some (p, j)) _ (by simp only [tpi]; rfl) ⟨_, _, rfl⟩ (fun m hm hI => ?_) (fun hI => ?_) (by omega)) ?_
      · obtain ⟨p, j, hpj⟩ := hI
        obtain ⟨f1, f2, f3⟩ := hf m hpj
        have hs : tpi l (i + 2) (m + 1) = match tText l j with
          | some (t, q) => some (p ++ [t], q)
          | none => none := by
          show (match tpi l (i + 2) m with
            | some (p, i) => _
            | none => _) = _
          rw [hpj]
        rw [hpj]
        simp only
        rw [dT (by omega), ttext_eq hb hl (by omega)]
        cases ht : tText l j with
        | none =>
          right
          rw [ht] at hs
          refine ⟨.inr ([], 0, 2), rfl, .inr ⟨rfl, ?_⟩⟩
          have := tpi_none hs (n - (m + 1))
          rwa [show m + 1 + (n - (m + 1)) = n by omega] at this
        | some q =>
          obtain ⟨t, q⟩ := q
          left
          rw [ht] at hs
          rw [hs]
          simp only [cond_true, Option.bind_some]
          rw [room_of (by simp; omega), w64 (by omega) (by omega)]
          exact ⟨by simp, _, _, rfl⟩
      · obtain ⟨p, j, hpj⟩ := hI
        rw [hpj]
        exact ⟨.inl ((j : Int), p), by simp only; rw [dF (by omega)]; rfl, .inl ⟨p, j, rfl, rfl⟩⟩
      · rintro o (⟨p, j, rfl, hpj⟩ | ⟨rfl, hpj⟩)
        · obtain ⟨f1, f2, f3⟩ := hf n hpj
          rw [hpj]
          simp only [joinX]
          rw [pool_eq (by omega)]
          simp only [Option.bind_some]
          by_cases hp : poolP p
          · rw [dT hp, if_pos hp]; rfl
          · rw [dF hp, if_neg hp]; rfl
        · rw [hpj]; rfl

theorem rtakep_eq {l : List Nat} {i : Int} (hb : bytesP l) (hl : l.length ≤ 140737488355328) (hi : -9223372036854775808 ≤ i ∧ i < 9223372036854775808) : exergueref09_TakePool (up l) i = some (tpV l i) := by
  unfold exergueref09_TakePool tpV
  by_cases h0 : i < 0
  · rw [dT h0, if_pos h0]; rfl
  · rw [dF h0, rtake_eq hb hl hi (by omega)]
    simp only [Option.bind_some, cond_false]
    obtain ⟨i, rfl⟩ := Int.eq_ofNat_of_zero_le (show 0 ≤ i by omega)
    have hv := val2_lt hb i
    unfold takeV
    rw [if_neg (by rintro (g | g | g) <;> first | exact g (by decide) | omega), if_neg h0]
    simp only [Int.toNat_natCast]
    have e2 : (2 : Int).toNat = 2 := rfl
    rw [e2]
    by_cases h1 : (i : Int) + 2 > l.length
    · rw [if_pos h1, if_pos h1]; rfl
    · rw [if_neg h1, if_neg h1]
      simp only [not_true_eq_false, decide_false, cond_false]
      generalize hn : valN ((l.drop i).take 2) = n at hv
      rw [w64 (n := (n : Int)) (by omega) (by omega)]
      have hf := fun m {p} {j} => tpi_facts (l := l) (i0 := i + 2) (by omega) m (p := p) (i := j)
      refine bind_of (fun o => (∃ p j, o = .inl (((j : Nat) : Int), p) ∧ tpi l (i + 2) n = some (p, j)) ∨ (o = .inr ([], 0, 2) ∧ tpi l (i + 2) n = none))
        (loop_count n (fun m => match tpi l (i + 2) m with
          | some (p, j) => ((j : Int), (m : Int), p)
          | none => (0, 0, [])) (fun m => ∃ p j, tpi l (i + 2) m = some (p, j)) _ (by simp only [tpi]; rfl) ⟨_, _, rfl⟩ (fun m hm hI => ?_) (fun hI => ?_) (by omega)) ?_
      · obtain ⟨p, j, hpj⟩ := hI
        obtain ⟨f1, f2, f3⟩ := hf m hpj
        have hs : tpi l (i + 2) (m + 1) = match tText l j with
          | some (t, q) => some (p ++ [t], q)
          | none => none := by
          show (match tpi l (i + 2) m with
            | some (p, i) => _
            | none => _) = _
          rw [hpj]
        rw [hpj]
        simp only
        rw [dT (by omega), rtake_eq hb hl (by omega) (by omega)]
        have hvj := val2_lt hb j
        unfold takeV
        rw [if_neg (by rintro (g | g | g) <;> first | exact g (by decide) | omega)]
        simp only [Int.toNat_natCast, e2]
        unfold tText at hs
        by_cases g1 : j + 2 ≤ l.length
        · rw [if_pos g1] at hs
          rw [if_neg (by omega)]
          generalize hnj : valN ((l.drop j).take 2) = nj at hs hvj
          rw [up_len]
          simp only [Option.bind_some, cond_true, not_true_eq_false, decide_false, cond_false]
          rw [w64 (n := (nj : Int)) (by omega) (by omega), w64 (n := (j : Int) + 2 + nj) (by omega) (by omega)]
          by_cases g2 : j + 2 + nj ≤ l.length
          · rw [if_pos g2] at hs
            left
            rw [hs, dF (by omega), inS_of (by omega) (by omega) (by omega), room_of (by simp; omega), w64 (by omega) (by omega)]
            have e : (j : Int) + 2 = ((j + 2 : Nat) : Int) := by omega
            rw [e, cut_text, text_of_bytes]
            refine ⟨?_, _, _, rfl⟩
            simp [joinX]
          · rw [if_neg g2] at hs
            right
            refine ⟨.inr ([], 0, 2), by rw [dT (by omega)]; rfl, .inr ⟨rfl, ?_⟩⟩
            have := tpi_none hs (n - (m + 1))
            rwa [show m + 1 + (n - (m + 1)) = n by omega] at this
        · rw [if_neg g1] at hs
          right
          rw [if_pos (by omega)]
          refine ⟨.inr ([], 0, 2), rfl, .inr ⟨rfl, ?_⟩⟩
          have := tpi_none hs (n - (m + 1))
          rwa [show m + 1 + (n - (m + 1)) = n by omega] at this
      · obtain ⟨p, j, hpj⟩ := hI
        rw [hpj]
        exact ⟨.inl ((j : Int), p), by simp only; rw [dF (by omega)]; rfl, .inl ⟨p, j, rfl, rfl⟩⟩
      · rintro o (⟨p, j, rfl, hpj⟩ | ⟨rfl, hpj⟩)
        · obtain ⟨f1, f2, f3⟩ := hf n hpj
          rw [hpj]
          simp only [joinX]
          rw [rpool_eq (by omega)]
          simp only [Option.bind_some]
          by_cases hp : poolP p
          · rw [dT hp, if_pos hp]; rfl
          · rw [dF hp, if_neg hp]; rfl
        · rw [hpj]; rfl

end Go.Proofs.Ytdeaonfclkffnaa
